/- Parts of the proof, in build order: BdN BdQ BdR. -/
import Derived.Test.YthmnnalamaponaaGreatK23
import Derived.StillTailTactics
import Derived.Deep.RegionWith
import Derived.Deep.DeepCutAuto
import Derived.Test.YthmnnalamaponaaGreatK11

/- Part BdN. -/
namespace Go.Proofs.YthmnnalamaponaaGreat
open Go.RowKit
set_option linter.unusedVariables false

set_option maxRecDepth 100000 in
theorem withV_same (s : Stt) (v : Value) : (s.withV v).a = s.a ∧ (s.withV v).M = s.M ∧ (s.withV v).n = s.n ∧ (s.withV v).ov = s.ov ∧ (s.withV v).tl = s.tl ∧ (s.withV v).R0 = s.R0 ∧ (s.withV v).topG = s.topG ∧ (s.withV v).fs.length = s.fs.length := by
  unfold Stt.withV Stt.topG
  cases hf : s.fs <;> simp
set_option maxRecDepth 100000 in
theorem withV_X (s : Stt) (v : Value) (b : Nat) : (s.withV v).X b = s.X b := by
  unfold Stt.withV Stt.X
  cases hf : s.fs <;> rfl
set_option maxRecDepth 100000 in
theorem withV_gs (s : Stt) (v : Value) : (s.withV v).fs.reverse.map (fun f => pcell f.g) = s.fs.reverse.map (fun f => pcell f.g) := by
  unfold Stt.withV
  cases hf : s.fs <;> simp
set_option maxRecDepth 100000 in
theorem withV_cnt (s : Stt) (v : Value) : cntF (s.withV v).fs = cntF s.fs := by
  funext l
  unfold Stt.withV
  cases hf : s.fs with
  | nil => simp [cntF]
  | cons f fs =>
    simp only [cntF, List.filter_cons]
    split <;> simp

set_option maxRecDepth 100000 in
/-- Behind add. -/
theorem StAt.added {lo : Nat} {P Q : Nat → Prop} {s : Stt} {gs : List Nat} {w w' : World} (h : StAt lo P Q s gs w) {vk' : Value} {ng : Nat} (ha : Added lo s.topG s.topV vk' (s.topR.map Rp.g ++ (s.tg ++ gs)) ng w w') :
    StAt lo (fun b => P b ∨ vk'.ownBlock = some b) Q (s.withV vk') (gs ++ [ng]) w' := by
  obtain ⟨hrow, cs, ty, hblk, hc6, hty⟩ := h.top
  have hlt : ∀ b, vk'.ownBlock = some b → lo ≤ b ∧ b < w'.heap.size := fun b hb => by have := ha.row.lt b hb; exact ⟨this.1, this.2⟩
  have hold : ∀ b, vk'.ownBlock = some b → P b ∨ w.heap.size ≤ b := fun b hb => by
    rcases ha.new with e | e
    · exact .inl (hrow.inP b (e ▸ hb))
    · exact .inr (e b hb)
  have hQ : ∀ b, Q b → w'.heap[b]? = w.heap[b]? := fun b hb => by
    refine ha.other b (h.lo b (.inr (.inl hb))).2 (fun e => ?_) fun e => h.pq b (hrow.inP b e) hb
    subst e
    unfold Stt.topG at hb
    cases hfs : s.fs with
    | nil => rw [hfs] at hb; exact h.qx _ hb (.inl rfl)
    | cons f fs =>
      rw [hfs] at hb
      have hf := h.frs
      rw [hfs] at hf
      exact h.pq _ hf.1 hb
  have hX : ∀ b, s.X b → b ≠ s.topG → w'.heap[b]? = w.heap[b]? := fun b hb hne => ha.other b (h.lo b (.inr (.inr hb))).2 hne fun e => h.px b (hrow.inP b e) hb
  obtain ⟨e1, e2, e3, e4, e5, e6, e7, e8⟩ := withV_same s vk'
  have htop : ∀ b cs2 ty2 fz2, w.heap[b]? = some (.cells cs2 ty2 fz2) → ty2 ≠ ty → b ≠ s.topG := fun b cs2 ty2 fz2 hb h1 => ne_of_heap hb hblk (cells_ne h1)
  have hty2 : ty = 168 ∨ ty = 166 := by
    unfold Stt.topG at hblk
    cases hfs : s.fs with
    | nil =>
      rw [hfs] at hblk
      have := h.blk
      rw [this] at hblk
      injection hblk with hblk
      injection hblk with _ hblk
      exact .inl hblk.symm
    | cons f fs =>
      rw [hfs] at hblk
      have hf := h.frs
      rw [hfs] at hf
      rw [hf.2.1] at hblk
      injection hblk with hblk
      injection hblk with _ hblk
      exact .inr hblk.symm
  refine ⟨?_, ?_, ?_, ?_, ?_, ?_, ?_, ?_, ?_⟩
  · rw [e1]
    cases hfs : s.fs with
    | nil =>
      have : s.topG = s.a := by unfold Stt.topG; rw [hfs]
      have h1 := ha.cell _ _ (this ▸ h.blk)
      rw [this] at h1
      rw [h1]
      unfold Stt.withV bldBlk
      rw [hfs]
      rfl
    | cons f fs =>
      have hf := h.frs
      rw [hfs] at hf
      have : s.topG = f.g := by unfold Stt.topG; rw [hfs]
      rw [hX s.a (.inl rfl) (fun e => h.px f.g hf.1 (by rw [← this, ← e]; exact .inl rfl)), h.blk]
      unfold Stt.withV bldBlk
      rw [hfs]
  · rw [e4, e8, withV_gs]
    refine ownsRow_same h.opn (by decide) fun b hb => .inl (hX b (.inr (.inr (.inl hb))) ?_)
    obtain ⟨cur, hh⟩ := h.ovT hb
    exact htop b _ _ _ hh (fun e => hty e.symm)
  · rw [e2, e3, withV_cnt]
    obtain ⟨es, ck, hh⟩ := h.cnt.heap
    exact h.cnt.kept (hX s.M (.inr (.inl rfl)) (ne_of_heap hh hblk (fun e => by cases e)))
  · have hf := h.frs
    have ht : (s.withV vk').tg = s.tg := by unfold Stt.tg; rw [e5]
    rw [ht]
    have hrow2 := ha.row
    clear hX htop hblk hc6 hty2 e1 e2 e3 e4 e5 e6 e7 e8 ht
    obtain ⟨a, M, n, ov, vk0, R0, fs, tl⟩ := s
    cases fs with
    | nil =>
      obtain ⟨h1, h2⟩ := hf
      refine ⟨⟨?_, fun b hb => .inr hb⟩, fun r hr => (h2 r hr).keep (keptB_same fun b hb => .inl (hQ b hb))⟩
      have := hrow2
      simp only [Stt.topR, List.append_assoc] at this
      exact this
    | cons f fs =>
      obtain ⟨h1, h2, h3, h4, h5, h6⟩ := hf
      have hk := keptB_same (fun b hb => .inl (hQ b hb) : ∀ b, Q b → Same1 w w' b)
      refine ⟨.inl h1, ?_, h3.keep hk.cell, ⟨?_, fun b hb => .inr hb⟩, fun r hr => (h5 r hr).keep hk, ?_⟩
      · exact ha.cell _ _ h2
      · have := hrow2
        simp only [Stt.topR, List.append_assoc] at this
        exact this
      · refine (h6.keep (fun b hb => .inl (hQ b hb)) fun b hb => .inl (ha.other b (h.lo b (.inl hb.1)).2 hb.2.1 hb.2.2)).mono (fun b hb => hb) fun b hb => ⟨.inl hb.1, hb.2.1, fun e => ?_⟩
        have hv : vk'.ownBlock = some b := e
        rcases ha.new with e2 | e2
        · exact hb.2.2 (e2 ▸ hv)
        · have h7 := e2 b hv
          have h8 := (h.lo b (.inl hb.1)).2
          omega
  · intro t ht
    rw [e5] at ht
    have h1 := h.tl t ht
    have hXt : ∀ b, (b = t.g ∨ t.bv.ownBlock = some b) → s.X b := fun b hb => .inr (.inr (.inr ⟨t, ht, hb⟩))
    have hg : w'.heap[t.g]? = w.heap[t.g]? := by
      refine hX t.g (hXt _ (.inl rfl)) ?_
      cases hfs : s.fs with
      | nil =>
        have : s.topG = s.a := by unfold Stt.topG; rw [hfs]
        rw [this]
        exact ne_of_heap h1.blk h.blk (cells_ne (by decide))
      | cons f fs =>
        have hf := h.frs
        rw [hfs] at hf
        have : s.topG = f.g := by unfold Stt.topG; rw [hfs]
        rw [this]
        exact fun e => h.px f.g hf.1 (e ▸ hXt _ (.inl rfl))
    refine ⟨hg.trans h1.blk, h1.bp, ⟨h1.own.1, ?_⟩, h1.ne⟩
    rcases h1.own.2 with h2 | ⟨g, cap, cur, fz, hv, hg2, hh, r⟩
    · exact .inl h2
    · refine .inr ⟨g, cap, cur, fz, hv, hg2, (hX g (hXt g (.inr (by rw [hv]; rfl))) (htop g _ _ _ hh ?_)).trans hh, r⟩
      rcases hty2 with e | e <;> rw [e] <;> decide
  · intro b hb hq
    rcases hb with hb | hb
    · exact h.pq b hb hq
    · rcases hold b hb with h2 | h2
      · exact h.pq b h2 hq
      · have := (h.lo b (.inr (.inl hq))).2
        omega
  · intro b hb hx
    rw [withV_X] at hx
    rcases hb with hb | hb
    · exact h.px b hb hx
    · rcases hold b hb with h2 | h2
      · exact h.px b h2 hx
      · have := (h.lo b (.inr (.inr hx))).2
        omega
  · intro b hb hx
    rw [withV_X] at hx
    exact h.qx b hb hx
  · intro b hb
    rw [withV_X] at hb
    have hz := ha.size
    rcases hb with (hb | hb) | hb
    · have := h.lo b (.inl hb)
      omega
    · exact hlt b hb
    · have := h.lo b (.inr hb)
      omega
set_option maxRecDepth 100000 in
theorem Added.bel {lo t : Nat} {vk vk' : Value} {gs : List Nat} {ng : Nat} {w w' : World} (h : Added lo t vk vk' gs ng w w') (ht : lo ≤ t) (hv : ∀ b, vk.ownBlock = some b → lo ≤ b) (hlo : lo ≤ w.heap.size) : Below lo w w' :=
  ⟨h.os, h.tape, h.output, h.size, fun k hk => h.other k (by omega) (by omega) fun e => by have := hv k e; omega⟩
set_option maxRecDepth 100000 in
theorem StAt.added_bel {lo : Nat} {P Q : Nat → Prop} {s : Stt} {gs : List Nat} {w w' : World} (h : StAt lo P Q s gs w) {vk' : Value} {ng : Nat} (ha : Added lo s.topG s.topV vk' (s.topR.map Rp.g ++ (s.tg ++ gs)) ng w w') (hlo : lo ≤ w.heap.size) : Below lo w w' := by
  refine ha.bel ?_ (fun b hb => (h.lo b (.inl (h.top.1.inP b hb))).1) hlo
  cases hfs : s.fs with
  | nil =>
    have : s.topG = s.a := by unfold Stt.topG; rw [hfs]
    rw [this]
    exact (h.lo s.a (.inr (.inr (.inl rfl)))).1
  | cons f fs =>
    have hf := h.frs
    rw [hfs] at hf
    have : s.topG = f.g := by unfold Stt.topG; rw [hfs]
    rw [this]
    exact (h.lo _ (.inl hf.1)).1

/-! ### shut -/
/-- One open element less. -/
def Stt.shut (s : Stt) (ov : Value) (n : Nat) : Stt := match s.fs with
  | [] => s
  | f :: fs => ({ s with ov := ov, n := n, fs := fs, tl := none } : Stt).push (f.rp s.tn)
set_option maxRecDepth 100000 in
theorem shut_bst (s : Stt) (ov : Value) (n : Nat) (h : s.fs ≠ []) : (s.shut ov n).bst [] = popB (s.bst []) := by
  obtain ⟨a, M, n0, ov0, vk0, R0, fs, tl⟩ := s
  cases fs with
  | nil => exact absurd rfl h
  | cons f fs =>
    cases fs with
    | nil =>
      have := pop_bst0 f ((⟨a, M, n0, ov0, vk0, R0, [f], tl⟩ : Stt).tn) R0
      simp only [Stt.bst, List.append_nil]
      rw [this]
      rfl
    | cons g fs =>
      have := pop_bst f g fs ((⟨a, M, n0, ov0, vk0, R0, f :: g :: fs, tl⟩ : Stt).tn) (R0.map Rp.n)
      simp only [Stt.bst, List.append_nil]
      rw [this]
      rfl
set_option maxRecDepth 100000 in
theorem own_cut {w : World} {lo : Nat} {e : TypeId} {A : Option Addr} {n c m : Nat} {xs : List Value} (h : w.ownsRow lo e 1 (.slice A n c) n xs) (hm : m ≤ n) : w.ownsRow lo e 1 (.slice A m c) m (xs.take m) := by
  have hl := h.1
  refine ⟨by rw [List.length_take]; omega, ?_⟩
  rcases h.2 with ⟨hv, h0⟩ | ⟨g, cap, cur, hv, hg, hh, hn, hc, hcs, hct⟩
  · injection hv with h1 h2 h3
    subst h1
    subst h3
    left
    obtain rfl : m = 0 := by omega
    exact ⟨rfl, rfl⟩
  · injection hv with h1 h2 h3
    subst h1
    subst h3
    refine .inr ⟨g, c, cur, rfl, hg, hh, by omega, hc, hcs, ?_⟩
    rw [← hct, List.take_take]
    congr 1
    omega

/-- What shut does. -/
structure Shut (a M : Nat) (cs : Array Value) (ov' : Value) (n : Nat) (f : List UInt8 → Nat) (w w' : World) : Prop where
  os : w'.os = w.os
  tape : w'.tape = w.tape
  output : w'.output = w.output
  size : w.heap.size ≤ w'.heap.size
  cell : w'.heap[a]? = some (.cells (cs.setIfInBounds 7 ov') 168 (0, 0))
  cnt : CntAt w' M n f
  other : ∀ b, b < w.heap.size → b ≠ a → b ≠ M → w'.heap[b]? = w.heap[b]?
/-- Between its two halves. -/
def ShutMid (a : Nat) (ov' : Value) (w wx : World) : Prop := ∃ n, wx = (w.drewN n).setCell ⟨a, 7, none⟩ ov'
set_option maxRecDepth 100000 in
theorem cnt_cons (f : Fm) (fs : List Fm) (l : List UInt8) : cntF (f :: fs) l = cntF fs l + if f.name.data.toList = l then 1 else 0 := by
  unfold cntF
  rw [List.filter_cons]
  by_cases h : f.name.data.toList = l
  · rw [if_pos h, if_pos (by simp [h])]; rfl
  · rw [if_neg h, if_neg (by simp [h])]; rfl
set_option maxRecDepth 100000 in
theorem cnt_le (fs : List Fm) (l : List UInt8) : cntF fs l ≤ fs.length := List.length_filter_le _ _
set_option maxRecDepth 100000 in
theorem cnt_upd (f : Fm) (fs : List Fm) : updN (cntF (f :: fs)) f.name.data.toList (cntF fs f.name.data.toList) = cntF fs := by
  funext l
  unfold updN
  by_cases h : l = f.name.data.toList
  · rw [if_pos h, h]
  · rw [if_neg h, cnt_cons, if_neg fun e => h e.symm]
    omega

set_option maxHeartbeats 4000000 in
set_option maxRecDepth 100000 in
theorem shutM_any {lo : Nat} {P Q : Nat → Prop} {s : Stt} {gs : List Nat} {w : World} (h : StAt lo P Q s gs w) {f : Fm} {fs : List Fm} (hfs : s.fs = f :: fs) (hz : s.fs.length ≤ 100000000) (hn : s.n ≤ 1000000000) (hnm : f.name.size ≤ 1000000000) :
    Calls Tryz.prog 187 #[.pointer (some ⟨s.a, 0, none⟩)] w fun e w' => e = .returned (.string f.name) ∧ ∃ A c, s.ov = .slice A (fs.length + 1) c ∧ Shut s.a s.M (bldBlk s) (.slice A fs.length c) (s.n + 1) (cntF fs) w w' := by
  have HPL := place_any h hz
  obtain ⟨A, c, hov, hc⟩ := own_size h.opn
  have hlen : s.fs.length = fs.length + 1 := by rw [hfs]; rfl
  have htg : s.topG = f.g := by unfold Stt.topG; rw [hfs]
  rw [hlen] at hov hc
  have hf := h.frs
  rw [hfs] at hf
  have hgb := hf.2.1
  have c1 : w.cell? ⟨f.g, 1, none⟩ = some (.string f.name) := cell_at hgb 1
  have hblk := h.blk
  have hcnt := h.cnt
  rw [hfs] at hcnt
  have hma : s.M ≠ s.a := by
    obtain ⟨es, ck, hh⟩ := hcnt.heap
    exact ne_of_heap hh hblk (fun e => by cases e)
  have c7 : w.cell? ⟨s.a, 7, none⟩ = some (.slice A (fs.length + 1) c) := (cell_at hblk 7).trans (by rw [← hov]; rfl)
  have c8 : w.cell? ⟨s.a, 8, none⟩ = some (.map (some s.M)) := cell_at hblk 8
  have f7 := froz_at hblk 7
  have HE := Lib.hid hov
  rw [htg] at HPL
  obtain ⟨m, hm⟩ : ∃ m, cntF fs f.name.data.toList = m := ⟨_, rfl⟩
  have hml : m ≤ 100000000 := by rw [← hm]; have := cnt_le fs f.name.data.toList; omega
  have hm1 : cntF (f :: fs) f.name.data.toList = m + 1 := by rw [cnt_cons, if_pos rfl, hm]
  have hup := cnt_upd f fs
  rw [hm] at hup
  have hnz : f.name.size ≤ maxLen := by unfold maxLen; omega
  -- the second half
  have HH : ∀ wx, ShutMid s.a (.slice A fs.length c) w wx → wx.cell? ⟨s.a, 8, none⟩ = some (.map (some s.M)) ∧
      (Instr.lookup 163 (.map (some s.M)) (.string f.name) false).run Tryz.prog wx = .ok (.int .i64 ((m : Int) + 1)) wx ∧
      ∃ wy, (Instr.mapUpdate 163 (.map (some s.M)) (.string f.name) (.int .i64 (m : Int))).run Tryz.prog wx = .ok () wy ∧ wy.cell? ⟨s.a, 8, none⟩ = some (.map (some s.M)) ∧
      (Instr.lookup 163 (.map (some s.M)) (.string f.name) false).run Tryz.prog wy = .ok (.int .i64 (m : Int)) wy ∧ Shut s.a s.M (bldBlk s) (.slice A fs.length c) (s.n + 1) (cntF fs) w wy ∧
      (m = 0 → ∀ ty, ∃ wz, (Builtin.delete_ #[163, 9] ty #[.map (some s.M), .string f.name]).run Tryz.prog wy = .ok (.tuple #[]) wz ∧ Shut s.a s.M (bldBlk s) (.slice A fs.length c) (s.n + 1) (cntF fs) w wz) := by
    rintro wx ⟨n, rfl⟩
    have hbx : (w.drewN n).heap[s.a]? = some (.cells (bldBlk s) 168 (0, 0)) := hblk
    have hb1 : ((w.drewN n).setCell ⟨s.a, 7, none⟩ (.slice A fs.length c)).heap[s.a]? = some (.cells ((bldBlk s).setIfInBounds 7 (.slice A fs.length c)) 168 (0, 0)) := heap_setCell_same _ s.a 7 _ _ _ hbx
    have hoth : ∀ b, b ≠ s.a → ((w.drewN n).setCell ⟨s.a, 7, none⟩ (.slice A fs.length c)).heap[b]? = w.heap[b]? := fun b hb => heap_setCell_other _ _ _ _ hb
    have hc1 := hcnt.kept (hoth s.M hma)
    have hlk := hc1.look f.name hnz
    rw [hm1] at hlk
    obtain ⟨wy, hup1, hc2, hg2⟩ := hc1.store (by omega) f.name hnz m (by omega) (m : Int) rfl
    rw [hup] at hc2
    have hlk2 := hc2.look f.name hnz
    rw [hm] at hlk2
    have hb2 : wy.heap[s.a]? = some (.cells ((bldBlk s).setIfInBounds 7 (.slice A fs.length c)) 168 (0, 0)) := (hg2.block s.a (Array.getElem?_eq_some_iff.1 hb1).1 fun e => hma (by injection e with e; exact e.symm)).trans hb1
    have hsz : ((w.drewN n).setCell ⟨s.a, 7, none⟩ (.slice A fs.length c)).heap.size = w.heap.size := by simp
    have hS : Shut s.a s.M (bldBlk s) (.slice A fs.length c) (s.n + 1) (cntF fs) w wy := ⟨hg2.os, hg2.tape, hg2.output, by have := hg2.size; omega, hb2, hc2, fun b hb hba hbm => (hg2.block b (by omega) fun e => hbm (by injection e)).trans (hoth b hba)⟩
    refine ⟨cell_at hb1 8, by rw [hlk]; rfl, wy, hup1, cell_at hb2 8, hlk2, hS, fun h0 ty => ?_⟩
    obtain ⟨wz, hd, hc3, hg3⟩ := hc2.drop f.name hnz (by rw [hm, h0]) ty
    have hb3 : wz.heap[s.a]? = some (.cells ((bldBlk s).setIfInBounds 7 (.slice A fs.length c)) 168 (0, 0)) := (hg3.block s.a (Array.getElem?_eq_some_iff.1 hb2).1 fun e => hma (by injection e with e; exact e.symm)).trans hb2
    have h5 := hg2.size
    exact ⟨wz, hd, ⟨hg3.os.trans hS.os, hg3.tape.trans hS.tape, hg3.output.trans hS.output, Nat.le_trans hS.size hg3.size, hb3, hc3, fun b hb hba hbm => (hg3.block b (by omega) fun e => hbm (by injection e)).trans (hS.other b hb hba hbm)⟩⟩
  have HP := Lib.hid HPL
  have HS := Lib.hid HH
  have HC := Lib.hid (show ∀ n, (w.drewN n).cell? ⟨f.g, 1, none⟩ = some (.string f.name) ∧ (w.drewN n).cell? ⟨s.a, 7, none⟩ = some (.slice A (fs.length + 1) c) ∧ (w.drewN n).frozen? ⟨s.a, 7, none⟩ = false from fun n => ⟨c1, c7, f7⟩)
  obtain ⟨a, ha⟩ : ∃ a, s.a = a := ⟨_, rfl⟩
  obtain ⟨M, hM⟩ : ∃ M, s.M = M := ⟨_, rfl⟩
  obtain ⟨nn, hnn⟩ : ∃ n, s.n = n := ⟨_, rfl⟩
  obtain ⟨ov, hvv⟩ : ∃ n, s.ov = n := ⟨_, rfl⟩
  obtain ⟨bb, hbb⟩ : ∃ n, bldBlk s = n := ⟨_, rfl⟩
  obtain ⟨nm, hnm'⟩ : ∃ n, f.name = n := ⟨_, rfl⟩
  obtain ⟨fg, hfg⟩ : ∃ n, f.g = n := ⟨_, rfl⟩
  obtain ⟨k, hk⟩ : ∃ k, fs.length = k := ⟨_, rfl⟩
  rw [ha] at HP HS HC ⊢
  rw [hM, hnn, hbb] at HS ⊢
  rw [hvv, hk] at HE ⊢
  rw [hk] at HC HS hc hlen
  rw [hnm'] at HS HC ⊢
  rw [hfg] at HC HP
  have hk1 : k ≤ 100000000 := by omega
  have hkc : k ≤ c := by omega
  clear HPL HH hov hc hlen htg hf hgb c1 hblk hcnt hma c7 c8 f7 hm hm1 hup hnz ha hM hnn hvv hbb hnm' hnm hfg hk h hz hn
  have mixed : Tryz.prog.follows Departure.mixedOrders = true := by kernel_rfl
  have i1 : (0 : Int) ≤ (k : Int) := by omega
  have i2 : (k : Int) ≤ ((k + 1 : Nat) : Int) := by omega
  have i3 : (k : Int) ≤ (c : Int) := by omega
  have i4 : IntKind.i64.wrap (k : Int) = (k : Int) := by rw [IntKind.wrap_i64]; omega
  go_enter Tryz.func187, Tryz.ntmps187
  go_wp2_with fail
  refine HP.out.mono ?_
  rintro e w1 ⟨rfl, n, hw1⟩
  obtain ⟨c1, c7, f7⟩ := HC.out n
  rw [← hw1] at c1 c7 f7
  have HW := Lib.hid hw1
  clear hw1
  go_upto_region 2 with fail
  go_cut [] (fun wx => ShutMid a (.slice A k c) w wx)
  case first =>
    have c7' : w1.drew.cell? ⟨a, 7, none⟩ = some (.slice A (k + 1) c) := c7
    have f7' : w1.drew.frozen? ⟨a, 7, none⟩ = false := f7
    go_region
    all_goals go_wp2_with fail
    all_goals go_meet
    all_goals exact ⟨n + 1, by rw [HW.out]; rfl⟩
  case rest =>
    obtain ⟨d8, hlk, wy, hup, e8, hlk2, hS, hD⟩ := HS.out _ hcut
    have HSH := Lib.hid hS
    rcases Nat.eq_zero_or_pos m with h0 | h0
    · subst h0
      obtain ⟨wz, hdel, hS2⟩ := hD rfl 0
      have HS2 := Lib.hid hS2
      have hup0 : (Instr.mapUpdate 163 (.map (some M)) (.string nm) (.int .i64 0)).run Tryz.prog wc = .ok () wy := hup
      have hlk0 : (Instr.lookup 163 (.map (some M)) (.string nm) false).run Tryz.prog wy = .ok (.int .i64 0) wy := hlk2
      clear hS hD hS2 hcut hup hlk2
      go_wp2_with fail
      go_ret
      exact ⟨rfl, A, c, HE.out, HS2.out⟩
    · have B : ((m : Int) == 0) = false := by simp; omega
      clear hS hD hcut
      go_wp2_with fail
      go_ret
      exact ⟨rfl, A, c, HE.out, HSH.out⟩

end Go.Proofs.YthmnnalamaponaaGreat

/- Part BdQ. -/
namespace Go.Proofs.YthmnnalamaponaaGreat
open Go.RowKit
set_option linter.unusedVariables false

/-- The builder at block a is b; it has changed its counts, and has open elements, no more than N times; blocks of K are none of what it has. -/
def IsAtK (lo a : Nat) (b : Bst) (N : Nat) (K : Nat → Prop) (w : World) : Prop :=
  ∃ P Q s, s.a = a ∧ s.bst [] = b ∧ s.n + s.fs.length ≤ N ∧ (s.tl = none → lastText (inner b) = false) ∧ StAt lo P Q s [] w ∧ ∀ k, K k → ¬ P k ∧ ¬ Q k ∧ ¬ s.X k
def noB : Nat → Prop := fun _ => False
def IsAtB (lo a : Nat) (b : Bst) (N : Nat) (w : World) : Prop := IsAtK lo a b N noB w
set_option maxRecDepth 100000 in
theorem IsAtK.forget {lo a : Nat} {b : Bst} {N : Nat} {K : Nat → Prop} {w : World} (h : IsAtK lo a b N K w) : IsAtB lo a b N w := by
  obtain ⟨P, Q, s, h1, h2, h3, h4, h5, h6⟩ := h
  exact ⟨P, Q, s, h1, h2, h3, h4, h5, fun k hk => hk.elim⟩
set_option maxRecDepth 100000 in
theorem IsAtK.less {lo a : Nat} {b : Bst} {N M : Nat} {K : Nat → Prop} {w : World} (h : IsAtK lo a b N K w) (hN : N ≤ M) : IsAtK lo a b M K w := by
  obtain ⟨P, Q, s, h1, h2, h3, h4, h5, h6⟩ := h
  exact ⟨P, Q, s, h1, h2, by omega, h4, h5, h6⟩
/-- What was made between w0 and w. -/
def newB (w0 w : World) (k : Nat) : Prop := w0.heap.size ≤ k ∧ k < w.heap.size
set_option maxRecDepth 100000 in
theorem IsAtK.more {lo a : Nat} {b : Bst} {N : Nat} {K : Nat → Prop} {w w' : World} (h : IsAtK lo a b N K w) (hb : Below w.heap.size w w') : IsAtK lo a b N (fun k => K k ∨ newB w w' k) w' := by
  obtain ⟨P, Q, s, h1, h2, h3, h4, h5, h6⟩ := h
  refine ⟨P, Q, s, h1, h2, h3, h4, h5.below hb, fun k hk => ?_⟩
  rcases hk with hk | hk
  · exact h6 k hk
  · have hlo := fun h => (h5.lo k h).2
    refine ⟨fun h => ?_, fun h => ?_, fun h => ?_⟩
    · have := hlo (.inl h); have := hk.1; omega
    · have := hlo (.inr (.inl h)); have := hk.1; omega
    · have := hlo (.inr (.inr h)); have := hk.1; omega
set_option maxRecDepth 100000 in
theorem IsAtK.keep {lo a : Nat} {b : Bst} {N : Nat} {K : Nat → Prop} {w w' : World} (h : IsAtK lo a b N K w) (hb : Below w.heap.size w w') : IsAtK lo a b N K w' := by
  obtain ⟨P, Q, s, h1, h2, h3, h4, h5, h6⟩ := h
  exact ⟨P, Q, s, h1, h2, h3, h4, h5.below hb, h6⟩

/-! ### sizes -/
theorem szFs_len : ∀ l : List Fr, 10 * l.length ≤ szFs l
  | [] => Nat.le_refl _
  | f :: l => by
    have := szFs_len l
    simp only [szFs, szF, List.length_cons]
    omega
set_option maxRecDepth 100000 in
theorem bst_fs_len (s : Stt) (x : List Nd) : (s.bst x).fs.length = s.fs.length := bst_len _ _ _
set_option maxRecDepth 100000 in
theorem inner_top (s : Stt) (x : List Nd) : inner (s.bst x) = s.topR.map Rp.n ++ (s.tn ++ x) := by
  unfold Stt.bst Stt.topR
  rw [bst_inner]
  cases s.fs <;> rfl
set_option maxRecDepth 100000 in
theorem inner_sz (b : Bst) : szL (inner b) ≤ szB b := by
  obtain ⟨fs, out⟩ := b
  cases fs with
  | nil => show szL out ≤ szFs [] + szL out; omega
  | cons f fs => show szL f.kids ≤ szFs (f :: fs) + szL out; simp only [szFs, szF]; omega
set_option maxRecDepth 100000 in
theorem fs_small {s : Stt} {x : List Nd} {k : Nat} (h : szB (s.bst x) ≤ k) : s.fs.length ≤ k := by
  have h1 := szFs_len (s.bst x).fs
  rw [bst_fs_len] at h1
  have : szFs (s.bst x).fs ≤ szB (s.bst x) := Nat.le_add_right _ _
  omega
set_option maxRecDepth 100000 in
theorem row_small {s : Stt} {k : Nat} (h : szB (s.bst []) ≤ k) : (s.topR.map Rp.g ++ (s.tg ++ [])).length ≤ k := by
  have h1 := inner_sz (s.bst [])
  have h2 := szL_len (inner (s.bst []))
  rw [inner_top] at h1 h2
  have h3 : (s.topR.map Rp.g ++ (s.tg ++ [])).length = (s.topR.map Rp.n ++ (s.tn ++ [])).length := by
    unfold Stt.tg Stt.tn
    cases s.tl <;> simp
  omega
set_option maxRecDepth 100000 in
theorem name_small {f : Fm} {fs : List Fm} {x out : List Nd} {k : Nat} (h : szB (bstOf (f :: fs) x out) ≤ k) : f.name.size ≤ k := by
  have : szF (frOf f x) ≤ szB (bstOf (f :: fs) x out) := by
    show szF (frOf f x) ≤ szF (frOf f x) + szFs (frsOf fs) + szL out
    omega
  have h2 : f.name.size ≤ szF (frOf f x) := by show f.name.size ≤ 10 + f.name.size + _ + _; omega
  omega

set_option maxRecDepth 100000 in
theorem ownBlock_len (A : Option Addr) (n m c : Nat) : (Value.slice A n c).ownBlock = (Value.slice A m c).ownBlock := by cases A <;> rfl

/-! ### shut -/
theorem pop_last (b : Bst) (f : Fr) (fs : List Fr) (h : b.fs = f :: fs) : lastText (inner (popB b)) = false := by
  obtain ⟨l, out⟩ := b
  simp only at h
  subst h
  show lastText (inner (addTo ⟨fs, out⟩ (nodeOf f))) = false
  rw [addTo_eq, inner_setIn, mstep_elt _ (n := nodeOf f) rfl, lastText_snoc]
  rfl
set_option maxRecDepth 100000 in
theorem StAt.shut {lo : Nat} {P Q : Nat → Prop} {s : Stt} {w w' : World} {f : Fm} {fs : List Fm} {A : Option Addr} {c : Nat} (h : StAt lo P Q s [] w) (hfs : s.fs = f :: fs) (hov : s.ov = .slice A (fs.length + 1) c)
    (hS : Shut s.a s.M (bldBlk s) (.slice A fs.length c) (s.n + 1) (cntF fs) w w') : ∃ P' Q', StAt lo P' Q' (s.shut (.slice A fs.length c) (s.n + 1)) [] w' ∧ ∀ k, P' k ∨ Q' k ∨ (s.shut (.slice A fs.length c) (s.n + 1)).X k → P k ∨ Q k ∨ s.X k := by
  have hf := h.frs
  rw [hfs] at hf
  obtain ⟨h1, h2, h3, h4, h5, h6⟩ := hf
  have hne : ∀ b, (P b ∨ Q b ∨ s.ov.ownBlock = some b ∨ ∃ t, s.tl = some t ∧ (b = t.g ∨ t.bv.ownBlock = some b)) → w'.heap[b]? = w.heap[b]? := by
    obtain ⟨es, ck, hM⟩ := h.cnt.heap
    rintro b (hb | hb | hb | ⟨t, ht, hb⟩)
    · exact hS.other b (h.lo b (.inl hb)).2 (fun e => h.px b hb (.inl e)) (fun e => h.px b hb (.inr (.inl e)))
    · exact hS.other b (h.lo b (.inr (.inl hb))).2 (fun e => h.qx b hb (.inl e)) (fun e => h.qx b hb (.inr (.inl e)))
    · obtain ⟨cur, hh⟩ := h.ovT hb
      exact hS.other b (h.lo b (.inr (.inr (.inr (.inr (.inl hb)))))).2 (ne_of_heap hh h.blk (cells_ne (by decide))) (ne_of_heap hh hM (fun e => by cases e))
    · have hlt := (h.lo b (.inr (.inr (.inr (.inr (.inr ⟨t, ht, hb⟩)))))).2
      have htl := h.tl t ht
      rcases hb with rfl | hb
      · exact hS.other _ hlt (ne_of_heap htl.blk h.blk (cells_ne (by decide))) (ne_of_heap htl.blk hM (fun e => by cases e))
      · obtain ⟨cur, fz, hh⟩ := htl.buf hb
        exact hS.other b hlt (ne_of_heap hh h.blk (cells_ne (by decide))) (ne_of_heap hh hM (fun e => by cases e))
  obtain ⟨s1, hs1⟩ : ∃ s1 : Stt, ({ s with ov := .slice A fs.length c, n := s.n + 1, fs := fs, tl := none } : Stt) = s1 := ⟨_, rfl⟩
  have hshut : s.shut (.slice A fs.length c) (s.n + 1) = s1.push (f.rp s.tn) := by
    unfold Stt.shut
    rw [hfs, ← hs1]
  have hX1 : ∀ b, s1.X b → b = s.a ∨ b = s.M ∨ s.ov.ownBlock = some b := by
    rw [← hs1]
    rintro b (hb | hb | hb | ⟨t, ht, _⟩)
    · exact .inl hb
    · exact .inr (.inl hb)
    · refine .inr (.inr ?_)
      rw [hov]
      exact (ownBlock_len _ _ _ _).trans hb
    · cases ht
  have hXs : ∀ b, s1.X b → s.X b := fun b hb => by
    rcases hX1 b hb with h | h | h
    · exact .inl h
    · exact .inr (.inl h)
    · exact .inr (.inr (.inl h))
  have hst1 : StAt lo (fun b => P b ∧ b ≠ f.g ∧ f.vk.ownBlock ≠ some b) Q s1 [f.g] w' := by
    have hx := hs1
    refine ⟨?_, ?_, ?_, ?_, fun t ht => ?_, fun b hb => h.pq b hb.1, fun b hb hx => h.px b hb.1 (hXs b hx), fun b hb hx => h.qx b hb (hXs b hx), fun b hb => ?_⟩
    · rw [← hs1]
      exact hS.cell
    · have ho := h.opn
      rw [hfs, hov] at ho
      have h7 := own_cut (m := fs.length) ho (by simp)
      have h8 : ((f :: fs).reverse.map fun f => pcell f.g).take fs.length = fs.reverse.map fun f => pcell f.g := by
        rw [List.reverse_cons, List.map_append, List.take_left' (by simp)]
      rw [h8] at h7
      rw [← hs1]
      exact ownsRow_same h7 (by decide) fun b hb => .inl (hne b (.inr (.inr (.inl (by rw [hov]; exact (ownBlock_len _ _ _ _).trans hb)))))
    · rw [← hs1]
      exact hS.cnt
    · have h9 := h6.keep (fun b hb => .inl (hne b (.inr (.inl hb)))) fun b hb => .inl (hne b (.inl hb.1))
      rw [← hs1]
      exact h9
    · rw [← hs1] at ht
      cases ht
    · have hz := hS.size
      have := h.lo b (by
        rcases hb with hb | hb | hb
        · exact .inl hb.1
        · exact .inr (.inl hb)
        · exact .inr (.inr (hXs b hb)))
      omega
  have htl1 : s1.tl = none := by rw [← hs1]
  rw [hshut]
  have hN : ∀ b, (b = f.g ∨ f.vk.ownBlock = some b ∨ ∃ t, s.tl = some t ∧ (b = t.g ∨ t.bv.ownBlock = some b)) → P b ∨ Q b ∨ s.X b := by
    rintro b (rfl | hb | hb)
    · exact .inl h1
    · exact .inl (h4.inP b hb)
    · exact .inr (.inr (.inr (.inr (.inr hb))))
  refine ⟨_, _, hst1.push (f.rp s.tn) htl1 (fun b => b = f.g ∨ f.vk.ownBlock = some b ∨ ∃ t, s.tl = some t ∧ (b = t.g ∨ t.bv.ownBlock = some b)) (fun b hb => ?_) ?_, fun k hk => ?_⟩
  · have hz := hS.size
    have hlo : lo ≤ b ∧ b < w.heap.size := by
      rcases hb with rfl | hb | hb
      · exact h.lo _ (.inl h1)
      · exact h.lo b (.inl (h4.inP b hb))
      · exact h.lo b (.inr (.inr (.inr (.inr (.inr hb)))))
    refine ⟨fun hp => ?_, fun hx => ?_, by omega, by omega⟩
    · rcases hb with hb | hb | hb
      · exact hp.2.1 hb
      · exact hp.2.2 hb
      · exact h.px b hp.1 (.inr (.inr (.inr hb)))
    · rcases hb with rfl | hb | ⟨t, ht, hb⟩
      · exact h.px _ h1 (hXs _ hx)
      · exact h.px b (h4.inP b hb) (hXs b hx)
      · have htl := h.tl t ht
        obtain ⟨es, ck, hM⟩ := h.cnt.heap
        rcases hb with rfl | hb
        · rcases hX1 _ hx with e | e | e
          · exact ne_of_heap htl.blk h.blk (cells_ne (by decide)) e
          · exact ne_of_heap htl.blk hM (fun e => by cases e) e
          · obtain ⟨cur, hh⟩ := h.ovT e
            exact ne_of_heap htl.blk hh (cells_ne (by decide)) rfl
        · obtain ⟨cur, fz, hh⟩ := htl.buf hb
          rcases hX1 _ hx with e | e | e
          · exact ne_of_heap hh h.blk (cells_ne (by decide)) e
          · exact ne_of_heap hh hM (fun e => by cases e) e
          · obtain ⟨cur2, hh2⟩ := h.ovT e
            exact ne_of_heap hh hh2 (cells_ne (by decide)) rfl
  · have hk := keptB_same (fun b hb => .inl (hne b (.inr (.inl hb))) : ∀ b, Q b → Same1 w w' b)
    rw [← s.tr_n]
    refine fm_one (lo := lo) (P := P) (.inr (.inl rfl)) ((hne _ (.inl h1)).trans h2) ((h3.keep hk.cell).mono fun b hb => .inl hb) ?_ (fun b hb => .inr (.inr (.inl hb))) (fun r hr => ((h5 r hr).keep hk).mono (fun b hb => .inl hb) fun k _ hb => .inl hb) fun r hr => ?_
    · rw [s.tr_g]
      rw [List.append_nil] at h4
      exact h4.keep fun b hb => .inl (hne b (.inl hb))
    · unfold Stt.tr at hr
      cases ht : s.tl with
      | none => rw [ht] at hr; cases hr
      | some t =>
        rw [ht] at hr
        simp at hr
        subst hr
        have htl := h.tl t ht
        have htl' : TlAt lo w' t := ⟨(hne _ (.inr (.inr (.inr ⟨t, ht, .inl rfl⟩)))).trans htl.blk, htl.bp, ⟨htl.own.1, by
          rcases htl.own.2 with h | ⟨g, cap, cur, fz, hv, hg, hh, r⟩
          · exact .inl h
          · exact .inr ⟨g, cap, cur, fz, hv, hg, (hne g (.inr (.inr (.inr ⟨t, ht, .inr (by rw [hv]; rfl)⟩)))).trans hh, r⟩⟩, htl.ne⟩
        exact Tl.one htl' (.inr (.inr (.inr ⟨t, rfl, .inl rfl⟩))) fun k hk => .inr (.inr (.inr ⟨t, rfl, .inr hk⟩))
  · rw [push_X] at hk
    rcases hk with hk | (hk | hk) | hk
    · exact .inl hk.1
    · exact .inr (.inl hk)
    · exact hN k hk
    · exact .inr (.inr (hXs k hk))

set_option maxRecDepth 100000 in
/-- Attributes do not lie where a builder's own words lie. -/
theorem attrs_off {lo : Nat} {P Q : Nat → Prop} {s : Stt} {gs : List Nat} {w w' : World} (h : StAt lo P Q s gs w) (hk : ∀ b, b < w.heap.size → b ≠ s.a → b ≠ s.M → w'.heap[b]? = w.heap[b]?) {B : Nat} (hB : B ≤ w.heap.size) {l : List (ByteArray × ByteArray)} {va : Value} (ha : AttrsAt (· < B) w l va) : AttrsAt (· < B) w' l va := by
  rcases Nat.eq_zero_or_pos l.length with h0 | h0
  · obtain rfl : l = [] := List.eq_nil_of_length_eq_zero h0
    obtain ⟨A, c, hv, hc, _⟩ := ha
    exact ⟨A, c, hv, hc, Cells.nil _ _ _⟩
  · obtain ⟨A, c, hv, hc, hx⟩ := ha
    refine ⟨A, c, hv, hc, fun hl => ?_⟩
    obtain ⟨b, o, hA, hb, hcell⟩ := hx hl
    refine ⟨b, o, hA, hb, fun j u hu => (World.cell?_of_block (a := ⟨b, o + j, none⟩) (hk b (Nat.lt_of_lt_of_le hb hB) (fun e => ?_) fun e => ?_)).trans (hcell j u hu)⟩
    · subst e
      obtain ⟨x, hx0⟩ : ∃ x, l[0]? = some x := ⟨_, List.getElem?_eq_getElem h0⟩
      have ha2 := acells_at hx0
      have c0 := hcell 0 _ (by simpa using ha2.1)
      have c1 := hcell 1 _ (by simpa using ha2.2)
      have e0 := (cell_at h.blk (o + 0)).symm.trans c0
      have e1 := (cell_at h.blk (o + 1)).symm.trans c1
      have ho : o + 1 < 9 := by
        have := (Array.getElem?_eq_some_iff.1 e1).1
        simpa [bldBlk] using this
      rcases (show o = 0 ∨ o = 1 ∨ o = 2 ∨ o = 3 ∨ o = 4 ∨ o = 5 ∨ o = 6 ∨ o = 7 by omega) with rfl | rfl | rfl | rfl | rfl | rfl | rfl | rfl <;> simp [bldBlk] at e0 e1
      rcases own_size h.opn with ⟨A2, c2, hov, _⟩
      rw [hov] at e1
      cases e1
    · subst e
      obtain ⟨es, ck, hM⟩ := h.cnt.heap
      have hl0 : 0 < (acells l).length := hl
      obtain ⟨u0, hu0⟩ : ∃ u, (acells l)[0]? = some u := ⟨_, List.getElem?_eq_getElem hl0⟩
      have c0 := hcell 0 _ hu0
      unfold World.cell? at c0
      rw [hM] at c0
      cases c0

/-- How many are open, as memory tells it. -/
def opLen (a : Nat) (w : World) : Nat := match w.cell? ⟨a, 7, none⟩ with | some (.slice _ n _) => n | _ => 0
set_option maxRecDepth 100000 in
theorem IsAtK.opLen {lo a : Nat} {b : Bst} {N : Nat} {K : Nat → Prop} {w : World} (h : IsAtK lo a b N K w) : opLen a w = b.fs.length := by
  obtain ⟨P, Q, s, rfl, rfl, h3, h4, h5, h6⟩ := h
  obtain ⟨A, c, hov, _⟩ := own_size h5.opn
  have c7 : w.cell? ⟨s.a, 7, none⟩ = some (.slice A s.fs.length c) := (cell_at h5.blk 7).trans (by rw [← hov]; rfl)
  unfold Proofs.YthmnnalamaponaaGreat.opLen
  rw [c7, bst_fs_len]

set_option maxRecDepth 100000 in
theorem shut_any {lo a : Nat} {b : Bst} {N : Nat} {K : Nat → Prop} {w : World} {fr : Fr} {rest : List Fr} (h : IsAtK lo a b N K w) (hb : b.fs = fr :: rest) (hz : szB b ≤ 100000000) (hN : N ≤ 1000000000) (hlo : lo ≤ w.heap.size) (hK : ∀ k, K k → k < w.heap.size) :
    Calls Tryz.prog 187 #[.pointer (some ⟨a, 0, none⟩)] w fun e w' => e = .returned (.string fr.name) ∧ IsAtK lo a (popB b) N K w' ∧ (∀ k, K k → w'.heap[k]? = w.heap[k]?) ∧ (∀ B l va, B ≤ w.heap.size → AttrsAt (· < B) w l va → AttrsAt (· < B) w' l va) ∧ Below lo w w' := by
  obtain ⟨P, Q, s, rfl, rfl, h3, h4, h5, h6⟩ := h
  obtain ⟨f, fs, hfs⟩ : ∃ f fs, s.fs = f :: fs := by
    cases hfs : s.fs with
    | nil =>
      have := bst_fs_len s []
      rw [hb, hfs] at this
      cases this
    | cons f fs => exact ⟨f, fs, rfl⟩
  have hnm : fr.name = f.name := by
    unfold Stt.bst at hb
    rw [hfs] at hb
    injection hb with hb _
    rw [← hb]
    rfl
  have hlen : s.fs.length = fs.length + 1 := by rw [hfs]; rfl
  refine (shutM_any h5 hfs (fs_small hz) (by omega) (by
    have : szB (bstOf (f :: fs) (s.tn ++ []) (s.R0.map Rp.n)) ≤ 100000000 := by
      have := hz
      unfold Stt.bst at this
      rw [hfs] at this
      exact this
    have := name_small this
    omega)).mono ?_
  rintro e w' ⟨rfl, A, c, hov, hS⟩
  obtain ⟨P', Q', h7, h8⟩ := h5.shut hfs hov hS
  have e1 : (s.shut (.slice A fs.length c) (s.n + 1)).a = s.a ∧ (s.shut (.slice A fs.length c) (s.n + 1)).n = s.n + 1 ∧ (s.shut (.slice A fs.length c) (s.n + 1)).fs.length = fs.length := by
    unfold Stt.shut
    rw [hfs]
    exact ⟨(push_a _ _).1, (push_a _ _).2.2.1, push_len _ _⟩
  have h9 : ∀ k, K k → ¬ (P k ∨ Q k ∨ s.X k) := fun k hk h => by
    obtain ⟨q1, q2, q3⟩ := h6 k hk
    rcases h with h | h | h
    · exact q1 h
    · exact q2 h
    · exact q3 h
  refine ⟨by rw [hnm], ⟨P', Q', _, e1.1, shut_bst _ _ _ (by rw [hfs]; simp), by rw [e1.2.1, e1.2.2]; omega, fun _ => pop_last _ _ _ hb, h7, fun k hk => ⟨fun h => h9 k hk (h8 k (.inl h)), fun h => h9 k hk (h8 k (.inr (.inl h))), fun h => h9 k hk (h8 k (.inr (.inr h)))⟩⟩,
    fun k hk => hS.other k (hK k hk) (fun e => h9 k hk (.inr (.inr (.inl e)))) fun e => h9 k hk (.inr (.inr (.inr (.inl e)))), fun B l va hB ha => attrs_off h5 hS.other hB ha, ⟨hS.os, hS.tape, hS.output, hS.size, fun k hk => ?_⟩⟩
  have ha := (h5.lo s.a (.inr (.inr (.inl rfl)))).1
  have hM := (h5.lo s.M (.inr (.inr (.inr (.inl rfl))))).1
  exact hS.other k (by omega) (by omega) (by omega)

end Go.Proofs.YthmnnalamaponaaGreat

/- Part BdR. -/
namespace Go.Proofs.YthmnnalamaponaaGreat
open Go.RowKit
set_option linter.unusedVariables false

set_option maxRecDepth 100000 in
theorem bst_add (s : Stt) (n : Nd) (h : n.kind = 2 → n.text.data.toList ≠ [] ∧ lastText (inner (s.bst [])) = false) : s.bst [n] = addTo (s.bst []) n := by
  rw [addTo_eq, mstep_app h, inner_top]
  obtain ⟨a, M, k, ov, vk0, R0, fs, tl⟩ := s
  cases fs with
  | nil => simp [Stt.bst, Stt.topR, bstOf, setIn]
  | cons f fs => simp [Stt.bst, Stt.topR, bstOf, setIn, frOf]
set_option maxRecDepth 100000 in
theorem settled_X (s : Stt) (b : Nat) (h : s.settled.X b) : s.X b := by
  unfold Stt.settled at h
  cases ht : s.tl with
  | none => rw [ht] at h; exact h
  | some t =>
    rw [ht] at h
    simp only [push_X] at h
    rcases h with h | h | h | ⟨t', h', _⟩
    · exact .inl h
    · exact .inr (.inl h)
    · exact .inr (.inr (.inl h))
    · cases h'

/-- A builder with a node more behind all that is in the innermost element; blocks of K are none of what it has, and stay. -/
def PlusAt (lo a : Nat) (b : Bst) (N : Nat) (K : Nat → Prop) (w : World) (ng : Nat) (w' : World) : Prop :=
  ∃ P Q s, s.a = a ∧ s.bst [] = b ∧ s.tl = none ∧ s.n + s.fs.length ≤ N ∧ StAt lo P Q s [ng] w' ∧ (∀ k, K k → ¬ P k ∧ ¬ Q k ∧ ¬ s.X k) ∧ (∀ k, K k → w'.heap[k]? = w.heap[k]?) ∧ w.heap.size ≤ w'.heap.size
set_option maxRecDepth 100000 in
theorem addG_any {lo a : Nat} {b : Bst} {N : Nat} {K : Nat → Prop} {w : World} (h : IsAtK lo a b N K w) (ng : Nat) (hz : szB b ≤ 100000000) (hlo : lo ≤ w.heap.size) (hK : ∀ k, K k → k < w.heap.size) :
    Calls Tryz.prog 189 #[.pointer (some ⟨a, 0, none⟩), .pointer (some ⟨ng, 0, none⟩)] w fun e w' => (∃ x, e = .returned x) ∧ PlusAt lo a b N K w ng w' ∧ Below lo w w' := by
  obtain ⟨P, Q, s, rfl, rfl, h3, h4, hst, h6⟩ := h
  refine (add_any hst ng (fs_small hz) (row_small hz) hlo).mono ?_
  rintro e w' ⟨hx, vk', ha⟩
  have hA := hst.added ha
  obtain ⟨Q', hS, hQ'⟩ := hA.settle
  have hw := withV_same s vk'
  have he := settled_a (s.withV vk')
  have hXs : ∀ k, (s.withV vk').settled.X k → s.X k := fun k hk => by have := settled_X _ k hk; rw [withV_X] at this; exact this
  refine ⟨hx, ⟨_, Q', _, he.1.trans hw.1, by rw [settled_bst, bst_withV], settled_tl _, by rw [he.2.1, he.2.2.1, hw.2.2.1, hw.2.2.2.2.2.2.2]; exact h3, hS, fun k hk => ⟨?_, ?_, ?_⟩, fun k hk => ?_, ha.size⟩, hst.added_bel ha hlo⟩
  · rintro (hp | hp)
    · exact (h6 k hk).1 hp
    · rcases ha.new with e | e
      · exact (h6 k hk).1 (hst.top.1.inP k (e ▸ hp))
      · have := e k hp
        have := hK k hk
        omega
  · intro hq
    rcases hQ' k hq with hq | hq
    · exact (h6 k hk).2.1 hq
    · rw [withV_X] at hq
      exact (h6 k hk).2.2 hq
  · intro hq
    exact (h6 k hk).2.2 (hXs k hq)
  · refine ha.other k (hK k hk) (fun e => ?_) fun e => (h6 k hk).1 (hst.top.1.inP k e)
    unfold Stt.topG at e
    cases hfs : s.fs with
    | nil =>
      rw [hfs] at e
      exact (h6 k hk).2.2 (.inl e)
    | cons f fs =>
      rw [hfs] at e
      have hf := hst.frs
      rw [hfs] at hf
      exact (h6 k hk).1 (e ▸ hf.1)

set_option maxRecDepth 100000 in
/-- It is closed: a comment, a void element. -/
theorem PlusAt.closed {lo a : Nat} {b : Bst} {N : Nat} {K : Nat → Prop} {w w' : World} (r : Rp) (h : PlusAt lo a b N K w r.g w') (hK : ∀ k, K k → lo ≤ k ∧ k < w.heap.size) (hr : POne (K) (inQ (K)) w r) (hk : r.n.kind ≠ 2) : IsAtB lo a (addTo b r.n) N w' := by
  obtain ⟨P, Q, s, rfl, rfl, h2, h3, h4, h5, h6, h7⟩ := h
  have hk1 := keptB_same (fun k hk => .inl (h6 k hk) : ∀ k, K k → Same1 w w' k)
  have hp := h4.push r h2 (K) (fun k hk => ⟨(h5 k hk).1, (h5 k hk).2.2, (hK k hk).1, Nat.lt_of_lt_of_le (hK k hk).2 h7⟩) ((hr.keep hk1).mono (fun b hb => .inr hb) fun k _ hb => .inr hb)
  have hbst : (s.push r).bst [] = addTo (s.bst []) r.n := by rw [bst_push _ _ h2]; exact bst_add s r.n fun e => absurd e hk
  refine ⟨_, _, _, (push_a s r).1, hbst, by rw [(push_a s r).2.2.1, push_len]; exact h3, fun _ => ?_, hp, fun k hk => hk.elim⟩
  rw [addTo_eq, inner_setIn, mstep_app fun e => absurd e hk, lastText_snoc]
  simpa using hk
set_option maxRecDepth 100000 in
set_option maxRecDepth 100000 in
/-- It is a text that may still grow. -/
theorem PlusAt.text {lo a : Nat} {b : Bst} {N : Nat} {K : Nat → Prop} {w w' : World} (t : Tl) (h : PlusAt lo a b N K w t.g w') (hK : ∀ k, K k → lo ≤ k ∧ k < w.heap.size) (ht : TlAt lo w t) (hg : K t.g) (hbv : t.bv = .slice none 0 0) (hne : t.rp.n.text.data.toList ≠ []) (hl : lastText (inner b) = false) : IsAtB lo a (addTo b t.rp.n) N w' := by
  obtain ⟨P, Q, s, rfl, rfl, h2, h3, h4, h5, h6, h7⟩ := h
  have htn : s.tn = [] := by unfold Stt.tn; rw [h2]
  have hbst : ({ s with tl := some t } : Stt).bst [] = addTo (s.bst []) t.rp.n := by
    rw [← bst_add s t.rp.n fun _ => ⟨hne, hl⟩]
    unfold Stt.bst
    rw [htn]
    rfl
  have hX : ∀ k, ({ s with tl := some t } : Stt).X k → s.X k ∨ k = t.g := by
    rintro k (hk | hk | hk | ⟨t', e, hk⟩)
    · exact .inl (.inl hk)
    · exact .inl (.inr (.inl hk))
    · exact .inl (.inr (.inr (.inl hk)))
    · injection e with e
      subst e
      rcases hk with hk | hk
      · exact .inr hk
      · rw [hbv] at hk; cases hk
  refine ⟨P, Q, { s with tl := some t }, rfl, hbst, h3, (fun e => by cases e), ⟨h4.blk, h4.opn, h4.cnt, ?_, fun t' e => ?_, h4.pq, fun k hk hx => ?_, fun k hk hx => ?_, fun k hk => ?_⟩, fun k hk => hk.elim⟩
  · have := h4.frs
    have htg : s.tg = [] := by unfold Stt.tg; rw [h2]
    rw [htg] at this
    exact this
  · injection e with e
    subst e
    refine ⟨(h6 _ hg).trans ht.blk, ht.bp, ⟨ht.own.1, ?_⟩, ht.ne⟩
    rcases ht.own.2 with h | ⟨g, cap, cur, fz, hv, _⟩
    · exact .inl h
    · rw [hbv] at hv
      cases hv
  · rcases hX k hx with hx | hx
    · exact h4.px k hk hx
    · subst hx; exact (h5 _ hg).1 hk
  · rcases hX k hx with hx | hx
    · exact h4.qx k hk hx
    · subst hx; exact (h5 _ hg).2.1 hk
  · rcases hk with hk | hk | hk
    · exact h4.lo k (.inl hk)
    · exact h4.lo k (.inr (.inl hk))
    · rcases hX k hk with hx | hx
      · exact h4.lo k (.inr (.inr hx))
      · subst hx
        exact ⟨(hK _ hg).1, Nat.lt_of_lt_of_le (hK _ hg).2 h7⟩

/-! ### an element that is open -/
theorem own_more2 {w w' : World} {lo n m : Nat} {e : TypeId} {v : Value} {xs ys : List Value} (h : w.ownsRow lo e 1 v n xs) (hn : n = m) (hx : xs = ys) : w.ownsRow lo e 1 v m ys := by subst hn; subst hx; exact h
set_option maxRecDepth 100000 in
/-- Behind add: the element is put behind the open ones, and its name is counted. -/
theorem PlusAt.frame {lo a : Nat} {b : Bst} {N : Nat} {K : Nat → Prop} {w w' : World} (f : Fm) (h : PlusAt lo a b N K w f.g w') (hK : ∀ k, K k → lo ≤ k ∧ k < w.heap.size) (hz : szB b ≤ 100000000) (hN : N ≤ 1000000000) (hnz : f.name.size ≤ 1000000000)
    (hg : K f.g) (hb : w.heap[f.g]? = some (.cells (fmBlk f) 166 (0, 0))) (ha : AttrsAt (K) w f.attrs f.va) (hag : 0 < f.attrs.length → ∀ k, f.va.ownBlock = some k → k ≠ f.g) (hR : f.R = []) (hvk : f.vk = .slice none 0 0) :
    ∃ A n c, n ≤ 100000000 ∧ w'.cell? ⟨a, 7, none⟩ = some (.slice A n c) ∧
    ∃ A' c' w2, (Builtin.append_ #[164, 164] 164 #[.slice A n c, .slice (some ⟨w'.heap.size, 0, none⟩) 1 1]).run Tryz.prog (w'.alloc (.cells #[.pointer (some ⟨f.g, 0, none⟩)] 174)) = .ok (.slice A' (n + 1) c') w2 ∧
      (∃ v, w2.cell? ⟨a, 7, none⟩ = some v) ∧ w2.frozen? ⟨a, 7, none⟩ = false ∧
      ∃ M cn, cn ≤ 100000000 ∧ (∀ k, (∀ j, K j → ((w2.setCell ⟨a, 7, none⟩ (.slice A' (n + 1) c')).drewN k).heap[j]? = w.heap[j]?) ∧ ((w2.setCell ⟨a, 7, none⟩ (.slice A' (n + 1) c')).drewN k).cell? ⟨a, 8, none⟩ = some (.map (some M)) ∧
        (Instr.lookup 163 (.map (some M)) (.string f.name) false).run Tryz.prog ((w2.setCell ⟨a, 7, none⟩ (.slice A' (n + 1) c')).drewN k) = .ok (.int .i64 (cn : Nat)) ((w2.setCell ⟨a, 7, none⟩ (.slice A' (n + 1) c')).drewN k) ∧
        ∃ w3, (Instr.mapUpdate 163 (.map (some M)) (.string f.name) (.int .i64 ((cn : Int) + 1))).run Tryz.prog ((w2.setCell ⟨a, 7, none⟩ (.slice A' (n + 1) c')).drewN k) = .ok () w3 ∧ IsAtB lo a ⟨⟨f.name, f.attrs, []⟩ :: b.fs, b.out⟩ (N + 2) w3 ∧ Below lo w' w3) := by
  obtain ⟨P, Q, s, rfl, rfl, h2, h3, h4, h5, h6, h7⟩ := h
  obtain ⟨i0, hi, hz0, hz1, hz2⟩ := info_parts info_pnode
  obtain ⟨A, c, hov, hc⟩ := own_size h4.opn
  have hfl : s.fs.length ≤ 100000000 := fs_small hz
  have c7 : w'.cell? ⟨s.a, 7, none⟩ = some (.slice A s.fs.length c) := (cell_at h4.blk 7).trans (by rw [← hov]; rfl)
  have hlw : lo ≤ w'.heap.size := by have := hK _ hg; omega
  refine ⟨A, s.fs.length, c, hfl, c7, ?_⟩
  obtain ⟨W, hW⟩ : ∃ W, w'.alloc (.cells #[.pointer (some ⟨f.g, 0, none⟩)] 174) = W := ⟨_, rfl⟩
  have hb0 : Below w'.heap.size w' W := by rw [← hW]; exact below_new _ _
  have hsW : W.heap.size = w'.heap.size + 1 := by rw [← hW]; simp
  have hnew : ∀ j u, [pcell f.g][j]? = some u → W.cell? ((⟨w'.heap.size, 0, none⟩ : Addr).add j) = some u := by
    rw [← hW]
    exact new_one w' _ _
  rw [hW]
  have hown : W.ownsRow lo 174 1 (.slice A s.fs.length c) s.fs.length (s.fs.reverse.map fun f => pcell f.g) := by rw [← hov]; exact own_below h4.opn hb0
  obtain ⟨v', w2, hrun, own', hgr, hnw⟩ := run_append_new (w := W) lo 164 164 174 i0 _ 1 8 Tryz.underlying164 hi hz0 hz1 hz2 rfl (by decide) (.slice A s.fs.length c) s.fs.length (s.fs.reverse.map fun f => pcell f.g) hown ⟨w'.heap.size, 0, none⟩ 1 1 [pcell f.g] rfl hnew (fun u hu => by simp at hu; subst hu; rfl) (by unfold maxLen; omega) (by omega) (by omega)
  obtain ⟨A', c', rfl, _⟩ := own_size own'
  have hgs := hgr.size
  -- blocks that stay
  have hst : ∀ k, k < w'.heap.size → s.ov.ownBlock ≠ some k → w2.heap[k]? = w'.heap[k]? := fun k hk hne => (hgr.block k (by omega) fun e => hne (by rw [hov]; exact e.symm)).trans (hb0.block k hk)
  obtain ⟨es, ck, hM⟩ := h4.cnt.heap
  have haov : s.ov.ownBlock ≠ some s.a := fun e => by
    obtain ⟨cur, hh⟩ := h4.ovT e
    exact ne_of_heap hh h4.blk (cells_ne (by decide)) rfl
  have hMov : s.ov.ownBlock ≠ some s.M := fun e => by
    obtain ⟨cur, hh⟩ := h4.ovT e
    exact ne_of_heap hh hM (fun e => by cases e) rfl
  have hMa : s.M ≠ s.a := ne_of_heap hM h4.blk (fun e => by cases e)
  have haw := (h4.lo s.a (.inr (.inr (.inl rfl)))).2
  have hMw := (h4.lo s.M (.inr (.inr (.inr (.inl rfl))))).2
  have hblk2 : w2.heap[s.a]? = some (.cells (bldBlk s) 168 (0, 0)) := (hst _ haw haov).trans h4.blk
  have hne' : (Value.slice A' (s.fs.length + 1) c').ownBlock ≠ some s.a := fun e => by
    rcases own'.2 with ⟨h1, _⟩ | ⟨g, cap, cur, h1, _, hh, _⟩
    · rw [h1] at e; cases e
    · rw [h1] at e
      injection e with e
      subst e
      exact ne_of_heap hblk2 hh (cells_ne (by decide)) rfl
  have hneM : (Value.slice A' (s.fs.length + 1) c').ownBlock ≠ some s.M := fun e => by
    rcases own'.2 with ⟨h1, _⟩ | ⟨g, cap, cur, h1, _, hh, _⟩
    · rw [h1] at e; cases e
    · rw [h1] at e
      injection e with e
      subst e
      exact ne_of_heap ((hst _ hMw hMov).trans hM) hh (fun e => by cases e) rfl
  refine ⟨A', c', w2, hrun, ⟨_, cell_at hblk2 7⟩, froz_at hblk2 7, s.M, cntF s.fs f.name.data.toList, Nat.le_trans (cnt_le _ _) hfl, fun k => ?_⟩
  obtain ⟨wx, hwx⟩ : ∃ wx, (w2.setCell ⟨s.a, 7, none⟩ (.slice A' (s.fs.length + 1) c')).drewN k = wx := ⟨_, rfl⟩
  have hxo : ∀ j, j ≠ s.a → wx.heap[j]? = w2.heap[j]? := fun j hj => by rw [← hwx]; exact heap_setCell_other _ _ _ _ hj
  have hxa : wx.heap[s.a]? = some (.cells ((bldBlk s).setIfInBounds 7 (.slice A' (s.fs.length + 1) c')) 168 (0, 0)) := by rw [← hwx]; exact heap_setCell_same w2 s.a 7 _ _ _ hblk2
  have hxs : wx.heap.size = w2.heap.size := by rw [← hwx]; simp
  have hxO : wx.os = w'.os ∧ wx.tape = w'.tape ∧ wx.output = w'.output := by rw [← hwx]; exact ⟨hgr.os.trans hb0.os, hgr.tape.trans hb0.tape, hgr.output.trans hb0.output⟩
  rw [hwx]
  have hcx : CntAt wx s.M s.n (cntF s.fs) := h4.cnt.kept ((hxo _ hMa).trans (hst _ hMw hMov))
  have hlk := hcx.look f.name (by unfold maxLen; omega)
  obtain ⟨w3, hup, hc3, hg3⟩ := hcx.store (by omega) f.name (by unfold maxLen; omega) (cntF s.fs f.name.data.toList + 1) (by have := cnt_le s.fs f.name.data.toList; omega) ((cntF s.fs f.name.data.toList : Int) + 1) (by omega)
  have h3s := hg3.size
  refine ⟨fun j hj => (hxo j fun e => (h5 j hj).2.2 (.inl e)).trans ((hst j (Nat.lt_of_lt_of_le (hK j hj).2 h7) fun e => (h5 j hj).2.2 (.inr (.inr (.inl e)))).trans (h6 j hj)), cell_at hxa 8, hlk, w3, hup, ?_, ⟨hg3.os.trans hxO.1, hg3.tape.trans hxO.2.1, hg3.output.trans hxO.2.2, by omega, fun j hj => ?_⟩⟩
  · have h3o : ∀ j, j < w'.heap.size → j ≠ s.a → j ≠ s.M → s.ov.ownBlock ≠ some j → w3.heap[j]? = w'.heap[j]? := fun j hj h8 h9 h10 => (hg3.block j (by omega) fun e => h9 (by injection e)).trans ((hxo j h8).trans (hst j hj h10))
    have hQ3 : ∀ j, Q j → w3.heap[j]? = w'.heap[j]? := fun j hj => h3o j (h4.lo j (.inr (.inl hj))).2 (fun e => h4.qx j hj (.inl e)) (fun e => h4.qx j hj (.inr (.inl e))) fun e => h4.qx j hj (.inr (.inr (.inl e)))
    have hP3 : ∀ j, P j → w3.heap[j]? = w'.heap[j]? := fun j hj => h3o j (h4.lo j (.inl hj)).2 (fun e => h4.px j hj (.inl e)) (fun e => h4.px j hj (.inr (.inl e))) fun e => h4.px j hj (.inr (.inr (.inl e)))
    have hN3 : ∀ j, K j → w3.heap[j]? = w.heap[j]? := fun j hj => (h3o j (Nat.lt_of_lt_of_le (hK j hj).2 h7) (fun e => (h5 j hj).2.2 (.inl e)) (fun e => (h5 j hj).2.2 (.inr (.inl e))) fun e => (h5 j hj).2.2 (.inr (.inr (.inl e)))).trans (h6 j hj)
    -- the new open row's block is none of P, Q, nor new between w0 and w
    have hov' : ∀ j, (Value.slice A' (s.fs.length + 1) c').ownBlock = some j → s.ov.ownBlock = some j ∨ w'.heap.size ≤ j := fun j hj => by
      rcases hnw with e | e
      · left
        rw [hov]
        exact e ▸ hj
      · have := e j hj
        exact .inr (by omega)
    have hov3 : ∀ j, (Value.slice A' (s.fs.length + 1) c').ownBlock = some j → lo ≤ j ∧ j < w3.heap.size := fun j hj => by
      have := own'.lt j hj
      exact ⟨this.1, by omega⟩
    obtain ⟨s3, hs3⟩ : ∃ s3 : Stt, (⟨s.a, s.M, s.n + 1, .slice A' (s.fs.length + 1) c', s.vk0, s.R0, f :: s.fs, none⟩ : Stt) = s3 := ⟨_, rfl⟩
    have hX3 : ∀ j, s3.X j → s.X j ∨ w'.heap.size ≤ j := by
      rw [← hs3]
      rintro j (hj | hj | hj | ⟨t, e, _⟩)
      · exact .inl (.inl hj)
      · exact .inl (.inr (.inl hj))
      · rcases hov' j hj with e | e
        · exact .inl (.inr (.inr (.inl e)))
        · exact .inr e
      · cases e
    have hbst3 : s3.bst [] = ⟨⟨f.name, f.attrs, []⟩ :: (s.bst []).fs, (s.bst []).out⟩ := by
      have htn : s.tn = [] := by unfold Stt.tn; rw [h2]
      rw [← hs3]
      unfold Stt.bst
      show bstOf (f :: s.fs) [] (s.R0.map Rp.n) = _
      rw [htn]
      show (⟨⟨f.name, f.attrs, f.R.map Rp.n ++ []⟩ :: frsOf s.fs, s.R0.map Rp.n⟩ : Bst) = _
      rw [hR]
      cases hfs : s.fs with
      | nil => simp [bstOf, frsOf]
      | cons g gs => simp [bstOf, frsOf]
    refine ⟨fun j => P j ∨ j = f.g, fun j => Q j ∨ (K j ∧ j ≠ f.g), s3, by rw [← hs3], hbst3, by rw [← hs3]; show s.n + 1 + (s.fs.length + 1) ≤ N + 2; omega, fun _ => rfl, ?_, fun k hk => hk.elim⟩
    refine ⟨?_, ?_, ?_, ?_, fun t e => ?_, fun j hj hq => ?_, fun j hj hx => ?_, fun j hj hx => ?_, fun j hj => ?_⟩
    · rw [← hs3]
      exact (hg3.block s.a (by omega) fun e => hMa (by injection e with e; exact e.symm)).trans hxa
    · rw [← hs3]
      have h11 : w3.ownsRow lo 174 1 (.slice A' (s.fs.length + 1) c') (s.fs.length + 1) (s.fs.reverse.map (fun f => pcell f.g) ++ [pcell f.g]) :=
        ownsRow_same own' (by decide) fun j hj => .inl ((hg3.block j (by have := own'.lt j hj; omega) fun e => hneM (by injection e with e; rw [hj, e])).trans (hxo j fun e => hne' (by rw [hj, e])))
      show w3.ownsRow lo 174 1 (.slice A' (s.fs.length + 1) c') (s.fs.length + 1) ((f :: s.fs).reverse.map fun f => pcell f.g)
      rw [List.reverse_cons, List.map_append]
      exact h11
    · rw [← hs3]
      have : updN (cntF s.fs) f.name.data.toList (cntF s.fs f.name.data.toList + 1) = cntF (f :: s.fs) := by
        funext l
        unfold updN
        rw [cnt_cons]
        by_cases e : l = f.name.data.toList
        · rw [if_pos e, e, if_pos rfl]
        · rw [if_neg e, if_neg fun h => e h.symm]
          rfl
      rw [this] at hc3
      exact hc3
    · rw [← hs3]
      refine ⟨.inr rfl, (hN3 _ hg).trans hb, ?_, ⟨?_, fun j hj => ?_⟩, fun r hr => ?_, ?_⟩
      · obtain ⟨A9, c9, hv9, hc9, hx9⟩ := ha
        refine ⟨A9, c9, hv9, hc9, fun h0 => ?_⟩
        obtain ⟨b9, o9, hA9, hS9, hcell9⟩ := hx9 h0
        exact ⟨b9, o9, hA9, .inr ⟨hS9, hag (by rw [acells_length] at h0; omega) b9 (by rw [hv9, hA9]; rfl)⟩, fun j u hu => (World.cell?_of_block (a := ⟨b9, o9 + j, none⟩) (hN3 _ hS9)).trans (hcell9 j u hu)⟩
      · rw [hR, hvk]
        exact World.ownsRow_nil _ _ _ _
      · rw [hvk] at hj; cases hj
      · rw [hR] at hr; cases hr
      · have hf := h4.frs
        have htg : s.tg = [] := by unfold Stt.tg; rw [h2]
        rw [htg, List.nil_append] at hf
        refine (hf.keep (fun j hj => .inl (hQ3 j hj)) fun j hj => .inl (hP3 j hj)).mono (fun j hj => .inl hj) fun j hj => ⟨.inl hj, fun e => ?_, fun e => ?_⟩
        · subst e; exact (h5 _ hg).1 hj
        · rw [hvk] at e; cases e
    · rw [← hs3] at e; cases e
    · rcases hj with hj | hj
      · rcases hq with hq | hq
        · exact h4.pq j hj hq
        · exact (h5 j hq.1).1 hj
      · subst hj
        rcases hq with hq | hq
        · exact (h5 _ hg).2.1 hq
        · exact hq.2 rfl
    · rcases hX3 j hx with hx | hx
      · rcases hj with hj | hj
        · exact h4.px j hj hx
        · subst hj; exact (h5 _ hg).2.2 hx
      · rcases hj with hj | hj
        · have := (h4.lo j (.inl hj)).2; omega
        · subst hj; have := (hK _ hg).2; omega
    · rcases hX3 j hx with hx | hx
      · rcases hj with hj | hj
        · exact h4.qx j hj hx
        · exact (h5 j hj.1).2.2 hx
      · rcases hj with hj | hj
        · have := (h4.lo j (.inr (.inl hj))).2; omega
        · have := (hK j hj.1).2; omega
    · have key : ∀ i, lo ≤ i ∧ i < w'.heap.size → lo ≤ i ∧ i < w3.heap.size := fun i hi => ⟨hi.1, by omega⟩
      have hnw2 : ∀ i, K i → lo ≤ i ∧ i < w'.heap.size := fun i hi => ⟨(hK i hi).1, Nat.lt_of_lt_of_le (hK i hi).2 h7⟩
      rcases hj with (hj | hj) | (hj | hj) | hj
      · exact key j (h4.lo j (.inl hj))
      · subst hj; exact key _ (hnw2 _ hg)
      · exact key j (h4.lo j (.inr (.inl hj)))
      · exact key j (hnw2 j hj.1)
      · rw [← hs3] at hj
        rcases hj with hj | hj | hj | ⟨t, e, _⟩
        · rw [hj]; exact key _ (h4.lo _ (.inr (.inr (.inl rfl))))
        · rw [hj]; exact key _ (h4.lo _ (.inr (.inr (.inr (.inl rfl)))))
        · exact hov3 j hj
        · cases e
  · have ha' := (h4.lo s.a (.inr (.inr (.inl rfl)))).1
    have hM' := (h4.lo s.M (.inr (.inr (.inr (.inl rfl))))).1
    exact (hg3.block j (by omega) fun e => by injection e with e; omega).trans ((hxo j (by omega)).trans (hst j (by omega) fun e => by have := (h4.lo j (.inr (.inr (.inr (.inr (.inl e)))))).1; omega))

end Go.Proofs.YthmnnalamaponaaGreat
