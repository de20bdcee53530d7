/- Parts of the proof, in build order: BdV BdW MpS Made MdlA BdX. -/
import Derived.Test.YthmnnalamaponaaGreatK24
import Derived.Test.YthmnnalamaponaaGreatK18
import Derived.BigQuiet
import Derived.Test.YthmnnalamaponaaGreatK07
import Derived.Deep.RegionWith
import Derived.Deep.DeepCutAuto
import Derived.Test.YthmnnalamaponaaGreatK15
import Derived.Test.YthmnnalamaponaaGreatK06
import Derived.Test.YthmnnalamaponaaGreatK01
import Derived.Test.YthmnnalamaponaaGreatK11
import Derived.Test.YthmnnalamaponaaGreatK14
import Derived.Deep.QuietTactic

/- Part BdV. -/
namespace Go.Proofs.YthmnnalamaponaaGreat
open Go.RowKit
set_option linter.unusedVariables false

def knew (w w' : World) : Nat → Prop := fun k => noB k ∨ newB w w' k
set_option maxRecDepth 100000 in
theorem knew_lo {w w' : World} {lo : Nat} (hlo : lo ≤ w.heap.size) : ∀ k, knew w w' k → lo ≤ k ∧ k < w'.heap.size := by
  rintro k (hk | hk)
  · exact hk.elim
  · exact ⟨Nat.le_trans hlo hk.1, hk.2⟩

/-- What a deed does: the builder is b' then. -/
def Did (lo a : Nat) (b' : Bst) (N : Nat) (w : World) (e : Ending) (w' : World) : Prop := (∃ x, e = .returned x) ∧ IsAtB lo a b' N w' ∧ Below lo w w'

set_option maxRecDepth 100000 in
/-- A comment that has just been made. -/
theorem rem_one {K : Nat → Prop} {w : World} {g : Nat} {t : ByteArray} (hg : K g) (h : w.heap[g]? = some (.cells #[.int .i64 4, .string ⟨#[]⟩, .slice none 0 0, .string t, .pointer none, .slice none 0 0, .slice none 0 0] 166 (0, 0))) :
    POne K (inQ K) w ⟨remN t, g, .slice none 0 0, .slice none 0 0, t, .slice none 0 0, []⟩ :=
  ⟨hg, ⟨cell_at h 0, cell_at h 1, cell_at h 2, cell_at h 3, cell_at h 5, cell_at h 6⟩, .comm rfl rfl rfl rfl rfl, AttrsAt.nil _ _, PTree.nil _ _ _⟩
/-- A text that has just been made. -/
def newTl (g : Nat) (t : ByteArray) : Tl := ⟨g, t, .pointer none, .slice none 0 0, []⟩
set_option maxRecDepth 100000 in
theorem newTl_at {lo : Nat} {w : World} {g : Nat} {t : ByteArray} (h : w.heap[g]? = some (.cells #[.int .i64 3, .string ⟨#[]⟩, .slice none 0 0, .string t, .pointer none, .slice none 0 0, .slice none 0 0] 166 (0, 0))) : TlAt lo w (newTl g t) :=
  ⟨h, .inl rfl, ⟨rfl, .inl ⟨rfl, rfl⟩⟩, fun _ => rfl⟩
set_option maxRecDepth 100000 in
theorem newTl_n (g : Nat) (t : ByteArray) : (newTl g t).rp.n = textN t := by
  show Nd.mk 2 ⟨#[]⟩ [] (t ++ ⟨([] : List UInt8).toArray⟩) [] = .mk 2 (tB []) [] t []
  congr 1
  apply ByteArray.ext
  simp

set_option maxHeartbeats 1000000 in
set_option maxRecDepth 100000 in
theorem remark_anyB {lo a : Nat} {b : Bst} {N : Nat} {w : World} (h : IsAtB lo a b N w) (nm tx : ByteArray) (A : Option Addr) (n c : Nat) (hz : szB b ≤ 100000000) (hlo : lo ≤ w.heap.size) :
    Calls Tryz.prog 183 #[.pointer (some ⟨a, 0, none⟩), .agg #[.int .i64 4, .string nm, .slice A n c, .string tx]] w (Did lo a (addTo b (remN tx)) N w) := by
  obtain ⟨w2, hw2⟩ : ∃ w2, (w.alloc (.cells #[.int .i64 4, .string nm, .slice A n c, .string tx] 129)).alloc (.cells #[.int .i64 4, .string ⟨#[]⟩, .slice none 0 0, .string tx, .pointer none, .slice none 0 0, .slice none 0 0] 166) = w2 := ⟨_, rfl⟩
  have hb2 : Below w.heap.size w w2 := by rw [← hw2]; exact ((Below.refl _ w).alloc (Nat.le_refl _) _).alloc (by simp) _
  have hs2 : w2.heap.size = w.heap.size + 2 := by rw [← hw2]; simp
  have hg : w2.heap[w.heap.size + 1]? = some (.cells #[.int .i64 4, .string ⟨#[]⟩, .slice none 0 0, .string tx, .pointer none, .slice none 0 0, .slice none 0 0] 166 (0, 0)) := by
    rw [← hw2]
    exact alloc_here' (by rw [World.size_alloc])
  have hK : knew w w2 (w.heap.size + 1) := .inr ⟨by omega, by omega⟩
  have HADD := Lib.hid (addG_any (K := knew w w2) (h.more hb2) (w.heap.size + 1) hz (by omega) (fun k hk => (knew_lo hlo k hk).2))
  have HR := Lib.hid (rem_one (K := knew w w2) hK hg)
  have HL := Lib.hid (And.intro (knew_lo (w' := w2) hlo) (hb2.mono hlo))
  clear hb2 hs2 hg hK h
  go_enter Tryz.func183, Tryz.ntmps183
  go_wp2_with fail
  refine HADD.out.mono ?_
  rintro e w3 ⟨⟨x, rfl⟩, hp, hb3⟩
  have HE := Lib.hid (show IsAtB lo a (addTo b (remN tx)) N w3 from PlusAt.closed ⟨remN tx, w.heap.size + 1, .slice none 0 0, .slice none 0 0, tx, .slice none 0 0, []⟩ hp HL.out.1 HR.out (show (3 : Int) ≠ 2 by decide))
  have HB := Lib.hid (HL.out.2.trans hb3)
  clear hp hb3 hw2
  go_wp2_with fail
  go_end0
  exact ⟨⟨_, rfl⟩, HE.out, HB.out⟩

/-! ### chars -/
theorem add_empty (b : Bst) (tx : ByteArray) (h : tx.data.toList = []) : addTo b (textN tx) = b := by
  rw [addTo_eq]
  unfold mstep
  rw [if_pos ⟨rfl, h⟩, setIn_inner]
/-- A text that has grown. -/
def Tl.grown (t : Tl) (bv : Value) (tx : ByteArray) : Tl := ⟨t.g, t.pre, .pointer (some ⟨t.g, 4, none⟩), bv, t.mo ++ tx.data.toList⟩
set_option maxRecDepth 100000 in
theorem grown_n (t : Tl) (bv : Value) (tx : ByteArray) : (t.grown bv tx).rp.n = .mk t.rp.n.kind t.rp.n.name t.rp.n.attrs (t.rp.n.text ++ tx) t.rp.n.kids := by
  show Nd.mk 2 ⟨#[]⟩ [] (t.pre ++ ⟨(t.mo ++ tx.data.toList).toArray⟩) [] = .mk 2 ⟨#[]⟩ [] ((t.pre ++ ⟨t.mo.toArray⟩) ++ tx) []
  congr 1
  apply ByteArray.ext
  apply Array.toList_inj.1
  simp
set_option maxRecDepth 100000 in
theorem grown_bst (s : Stt) (t : Tl) (bv : Value) (tx : ByteArray) (ht : s.tl = some t) (hne : tx.data.toList ≠ []) : ({ s with tl := some (t.grown bv tx) } : Stt).bst [] = addTo (s.bst []) (textN tx) := by
  have hi := inner_top s []
  have htn : s.tn = [t.rp.n] := by unfold Stt.tn; rw [ht]
  rw [htn] at hi
  rw [addTo_eq, hi]
  have hm : mstep (s.topR.map Rp.n ++ ([t.rp.n] ++ [])) (textN tx) = s.topR.map Rp.n ++ [(t.grown bv tx).rp.n] := by
    rw [List.append_nil]
    unfold mstep
    rw [if_neg fun h => hne h.2, if_pos ⟨rfl, by rw [lastText_snoc]; rfl⟩, mglue_snoc, grown_n]
    rfl
  rw [hm]
  obtain ⟨a, M, n, ov, vk0, R0, fs, tl⟩ := s
  cases fs with
  | nil => simp [Stt.bst, Stt.topR, Stt.tn, bstOf, setIn]
  | cons f fs => simp [Stt.bst, Stt.topR, Stt.tn, bstOf, setIn, frOf]
set_option maxRecDepth 100000 in
theorem StAt.wrote {lo : Nat} {P Q : Nat → Prop} {s : Stt} {gs : List Nat} {w w' : World} {t : Tl} {tx : ByteArray} (h : StAt lo P Q s gs w) (ht : s.tl = some t)
    (hw : Wrote lo t.g (.int .i64 3) (.string ⟨#[]⟩) (.slice none 0 0) (.string t.pre) t.bv (.slice none 0 0) (Lib.byteCells t.mo) tx w w') (hne : tx.data.toList ≠ []) : ∃ bv, StAt lo P Q { s with tl := some (t.grown bv tx) } gs w' := by
  obtain ⟨bv', hb1, ho1, hn1⟩ := hw.blk
  have htl := h.tl t ht
  have hbl : (Lib.byteCells t.mo).length + tx.size = (t.mo ++ tx.data.toList).length := by
    rw [Lib.byteCells_length, List.length_append, str_list]
  have hbc : Lib.byteCells t.mo ++ Lib.strCells tx = Lib.byteCells (t.mo ++ tx.data.toList) := by
    unfold Lib.byteCells
    rw [List.map_append]
    rfl
  have hX : ∀ b, ({ s with tl := some (t.grown bv' tx) } : Stt).X b → s.X b ∨ (bv'.ownBlock = some b ∧ w.heap.size ≤ b) := by
    rintro b (hb | hb | hb | ⟨t', e, hb⟩)
    · exact .inl (.inl hb)
    · exact .inl (.inr (.inl hb))
    · exact .inl (.inr (.inr (.inl hb)))
    · injection e with e
      subst e
      rcases hb with hb | hb
      · exact .inl (.inr (.inr (.inr ⟨t, ht, .inl hb⟩)))
      · rcases hn1 with e | e
        · exact .inl (.inr (.inr (.inr ⟨t, ht, .inr (e ▸ hb)⟩)))
        · exact .inr ⟨hb, e b hb⟩
  have hk : ∀ b, b < w.heap.size → b ≠ t.g → t.bv.ownBlock ≠ some b → w'.heap[b]? = w.heap[b]? := hw.kept
  have hPQ : ∀ b, P b ∨ Q b → w'.heap[b]? = w.heap[b]? := fun b hb => by
    have hlt := (h.lo b (hb.imp id .inl)).2
    refine hk b hlt (fun e => ?_) fun e => ?_
    · have hx : s.X b := .inr (.inr (.inr ⟨t, ht, .inl e⟩))
      rcases hb with hb | hb
      · exact h.px b hb hx
      · exact h.qx b hb hx
    · have hx : s.X b := .inr (.inr (.inr ⟨t, ht, .inr e⟩))
      rcases hb with hb | hb
      · exact h.px b hb hx
      · exact h.qx b hb hx
  have hoth : ∀ (b : Nat) (o : Obj), w.heap[b]? = some o → (∀ cs fz, o ≠ Obj.cells cs 166 fz) → (∀ cs fz, o ≠ Obj.cells cs 5 fz) → w'.heap[b]? = some o := fun b o hb h1 h2 => by
    refine (hk b (Array.getElem?_eq_some_iff.1 hb).1 (ne_of_heap hb htl.blk (h1 _ _)) fun e => ?_).trans hb
    obtain ⟨cur, fz, hh⟩ := htl.buf e
    exact ne_of_heap hb hh (h2 _ _) rfl
  refine ⟨bv', ⟨hoth _ _ h.blk (fun _ _ => cells_ne (by decide)) (fun _ _ => cells_ne (by decide)), ?_, ?_, ?_, fun t' e => ?_, h.pq, fun b hb hx => ?_, fun b hb hx => ?_, fun b hb => ?_⟩⟩
  · refine ownsRow_same h.opn (by decide) fun b hb => .inl ?_
    obtain ⟨cur, hh⟩ := h.ovT hb
    exact (hoth b _ hh (fun _ _ => cells_ne (by decide)) (fun _ _ => cells_ne (by decide))).trans hh.symm
  · obtain ⟨es, ck, hh⟩ := h.cnt.heap
    exact h.cnt.kept ((hoth _ _ hh (fun _ _ e => by cases e) (fun _ _ e => by cases e)).trans hh.symm)
  · have hf := h.frs.keep (fun b hb => .inl (hPQ b (.inr hb))) fun b hb => .inl (hPQ b (.inl hb))
    have e1 : s.tg = [t.g] := by unfold Stt.tg; rw [ht]
    rw [e1] at hf
    exact hf
  · injection e with e
    subst e
    refine ⟨hb1, .inr rfl, ?_, fun e => ?_⟩
    · show w'.ownsRowF lo 5 1 bv' (t.mo ++ tx.data.toList).length (Lib.byteCells (t.mo ++ tx.data.toList))
      rw [← hbc, ← hbl]
      exact ho1
    · exact absurd (List.append_eq_nil_iff.1 e).2 hne
  · rcases hX b hx with hx | hx
    · exact h.px b hb hx
    · have := (h.lo b (.inl hb)).2; omega
  · rcases hX b hx with hx | hx
    · exact h.qx b hb hx
    · have := (h.lo b (.inr (.inl hb))).2; omega
  · have hs := hw.size
    have key : ∀ i, lo ≤ i ∧ i < w.heap.size → lo ≤ i ∧ i < w'.heap.size := fun i hi => ⟨hi.1, by omega⟩
    rcases hb with hb | hb | hb
    · exact key b (h.lo b (.inl hb))
    · exact key b (h.lo b (.inr (.inl hb)))
    · rcases hX b hb with hx | hx
      · exact key b (h.lo b (.inr (.inr hx)))
      · have := ho1.lt b hx.1
        exact ⟨this.1, this.2⟩

end Go.Proofs.YthmnnalamaponaaGreat

/- Part BdW. -/
namespace Go.Proofs.YthmnnalamaponaaGreat
open Go.RowKit
set_option linter.unusedVariables false

set_option maxRecDepth 100000 in
theorem bel_drewN {B : Nat} {w w' : World} (h : Below B w w') (n : Nat) : Below B w (w'.drewN n) := ⟨h.os, h.tape, h.output, h.size, h.block⟩
set_option maxRecDepth 100000 in
theorem wrote_bel {lo g : Nat} {k nm va tx bv vk : Value} {m : List Value} {s : ByteArray} {w w' : World} (h : Wrote lo g k nm va tx bv vk m s w w') (hg : lo ≤ g) (hb : ∀ b, bv.ownBlock = some b → lo ≤ b) (hlo : lo ≤ w.heap.size) : Below lo w w' :=
  ⟨h.os, h.tape, h.output, h.size, fun k hk => h.kept k (by omega) (by omega) fun e => by have := hb k e; omega⟩
set_option maxRecDepth 100000 in
theorem text_small {s : Stt} {t : Tl} {k : Nat} (ht : s.tl = some t) (h : szB (s.bst []) ≤ k) : t.mo.length ≤ k := by
  have h1 := inner_sz (s.bst [])
  have htn : s.tn = [t.rp.n] := by unfold Stt.tn; rw [ht]
  rw [inner_top, htn, szL_append, List.append_nil, szL_cons, szN_eq] at h1
  have h2 : t.rp.n.text.size = t.pre.size + t.mo.length := by
    show (t.pre ++ ⟨t.mo.toArray⟩ : ByteArray).size = _
    rw [ByteArray.size_append]
    rfl
  omega

set_option maxRecDepth 100000 in
theorem text_end {lo a : Nat} {b : Bst} {N ng : Nat} {w W w' : World} {tx : ByteArray} (hp : PlusAt lo a b N (knew w W) W ng w') (hlo : lo ≤ w.heap.size) (hg : knew w W ng)
    (hb : W.heap[ng]? = some (.cells #[.int .i64 3, .string ⟨#[]⟩, .slice none 0 0, .string tx, .pointer none, .slice none 0 0, .slice none 0 0] 166 (0, 0))) (hl : lastText (inner b) = false) (hne : tx.data.toList ≠ []) : IsAtB lo a (addTo b (textN tx)) N w' := by
  have := PlusAt.text (newTl ng tx) hp (knew_lo hlo) (newTl_at hb) hg rfl (by rw [newTl_n]; exact hne) hl
  rw [newTl_n] at this
  exact this

set_option maxHeartbeats 4000000 in
set_option maxRecDepth 100000 in
theorem chars_anyB {lo a : Nat} {b : Bst} {N : Nat} {w : World} (h : IsAtB lo a b N w) (nm tx : ByteArray) (A : Option Addr) (n c : Nat) (hz : szB b ≤ 100000000) (htx : tx.size ≤ 100000000) (hlo : lo ≤ w.heap.size) :
    Calls Tryz.prog 182 #[.pointer (some ⟨a, 0, none⟩), .agg #[.int .i64 3, .string nm, .slice A n c, .string tx]] w (Did lo a (addTo b (textN tx)) N w) := by
  have mixed : Tryz.prog.follows Departure.mixedOrders = true := by kernel_rfl
  obtain ⟨w1, hw1⟩ : ∃ w1, w.alloc (.cells #[.int .i64 3, .string nm, .slice A n c, .string tx] 129) = w1 := ⟨_, rfl⟩
  have hb1 : Below w.heap.size w w1 := by rw [← hw1]; exact below_new _ _
  have hs1 : w1.heap.size = w.heap.size + 1 := by rw [← hw1]; simp
  have hbx : w1.heap[w.heap.size]? = some (.cells #[.int .i64 3, .string nm, .slice A n c, .string tx] 129 (0, 0)) := by rw [← hw1]; exact box_here w _ _
  have x0 : w1.cell? ⟨w.heap.size, 0, none⟩ = some (.int .i64 3) := cell_at hbx 0
  have x3 : w1.cell? ⟨w.heap.size, 3, none⟩ = some (.string tx) := cell_at hbx 3
  obtain ⟨q, hq⟩ : ∃ q, tx.toList.isEmpty = q := ⟨_, rfl⟩
  cases q with
  | true =>
    have HE := Lib.hid (show Did lo a (addTo b (textN tx)) N w (.returned (.tuple #[])) w1 from ⟨⟨_, rfl⟩, by rw [add_empty b tx ((isEmpty_iff' _).1 hq)]; exact h.keep hb1, hb1.mono hlo⟩)
    clear hb1 hs1 hbx h
    go_enter Tryz.func182, Tryz.ntmps182
    go_wp2_with fail
    go_end0
    exact HE.out
  | false =>
    have hne : tx.data.toList ≠ [] := fun e => by rw [(isEmpty_iff' _).2 e] at hq; cases hq
    obtain ⟨P, Q, s, rfl, hbs, h3, h4, h5, _⟩ := id h
    have hst := h5.below hb1
    have hzs : szB (s.bst []) ≤ 100000000 := by rw [hbs]; exact hz
    have HPL := place_any hst (fs_small hzs)
    obtain ⟨hrow, cs, ty, hblk, hc6, hty⟩ := hst.top
    obtain ⟨Ak, ck, hv, hck⟩ := own_size hrow.own
    have c6 : w1.cell? ⟨s.topG, 6, none⟩ = some (.slice Ak (s.topR.map Rp.g ++ (s.tg ++ [])).length ck) := (cell_at hblk 6).trans (hc6.trans (by rw [hv]))
    have hcl := Cells.own (hv ▸ hrow.own)
    -- what a text that is new becomes
    have HADD := Lib.hid (fun (W : World) (hW : Below w.heap.size w W) (ng : Nat) => addG_any (K := knew w W) (h.more hW) ng hz (Nat.le_trans hlo hW.size) fun k hk => (knew_lo hlo k hk).2)
    have hways : (s.tl = none ∧ s.topR = []) ∨ (∃ m r, s.tl = none ∧ s.topR = m ++ [r]) ∨ ∃ t, s.tl = some t := by
      cases ht : s.tl with
      | some t => exact .inr (.inr ⟨t, rfl⟩)
      | none =>
        rcases Nat.eq_zero_or_pos s.topR.length with h0 | h0
        · exact .inl ⟨rfl, List.eq_nil_of_length_eq_zero h0⟩
        · obtain ⟨m, r, hmr⟩ := snoc_of h0
          exact .inr (.inl ⟨m, r, rfl, hmr⟩)
    have hK : ∀ W : World, w1.heap.size < W.heap.size → Below w.heap.size w W → knew w W w1.heap.size := fun W hW hb => .inr ⟨by omega, by omega⟩
    rcases hways with ⟨htl, htr⟩ | ⟨m, r, htl, htr⟩ | ⟨t, htl⟩
    · have htg : s.tg = [] := by unfold Stt.tg; rw [htl]
      have hl := h4 htl
      rw [htr, htg] at c6
      have c6' : w1.cell? ⟨s.topG, 6, none⟩ = some (.slice Ak 0 ck) := c6
      have HP := Lib.hid HPL
      have HC := Lib.hid (fun k => (⟨x0, x3, c6'⟩ : (w1.drewN k).cell? ⟨w.heap.size, 0, none⟩ = some (.int .i64 3) ∧ (w1.drewN k).cell? ⟨w.heap.size, 3, none⟩ = some (.string tx) ∧ (w1.drewN k).cell? ⟨s.topG, 6, none⟩ = some (.slice Ak 0 ck)))
      obtain ⟨tg, htg'⟩ : ∃ g, s.topG = g := ⟨_, rfl⟩
      obtain ⟨sa, hsa⟩ : ∃ g, s.a = g := ⟨_, rfl⟩
      rw [htg'] at HP HC
      rw [hsa] at HP HADD ⊢
      have HB := Lib.hid hb1
      have HL := Lib.hid (And.intro hl hne)
      clear hb1 hs1 hbx c6 c6' HPL hrow hblk hc6 hty hv hck hcl hst h5 h4 h3 hl hne htg' hsa htl htr htg hbs h hzs
      go_enter Tryz.func182, Tryz.ntmps182
      go_wp2_with fail
      refine HP.out.mono ?_
      rintro e wd ⟨rfl, k, hwd⟩
      have hfa := HC.out k
      rw [← hwd] at hfa
      obtain ⟨y0, y3, y6⟩ := hfa
      have hBd : Below w.heap.size w wd := by rw [hwd]; exact bel_drewN HB.out k
      obtain ⟨w2, hw2⟩ : ∃ w2, wd.alloc (.cells #[.int .i64 3, .string ⟨#[]⟩, .slice none 0 0, .string tx, .pointer none, .slice none 0 0, .slice none 0 0] 166) = w2 := ⟨_, rfl⟩
      have hb2 : Below w.heap.size w w2 := by rw [← hw2]; exact hBd.alloc hBd.size _
      have HG := Lib.hid (show w2.heap[wd.heap.size]? = some (.cells #[.int .i64 3, .string ⟨#[]⟩, .slice none 0 0, .string tx, .pointer none, .slice none 0 0, .slice none 0 0] 166 (0, 0)) by rw [← hw2]; exact box_here wd _ _)
      have HKN := Lib.hid (show knew w w2 wd.heap.size by right; exact ⟨hBd.size, by rw [← hw2]; simp⟩)
      have HAD := Lib.hid (HADD.out w2 hb2 wd.heap.size)
      have HB2 := Lib.hid (hb2.mono hlo)
      clear hwd hBd hb2
      go_wp2_with fail
      refine HAD.out.mono ?_
      rintro e w3 ⟨⟨x, rfl⟩, hp, hb3⟩
      have HE := Lib.hid (text_end hp hlo HKN.out HG.out HL.out.1 HL.out.2)
      have HB3 := Lib.hid (HB2.out.trans hb3)
      clear hp hb3 hw2
      go_wp2_with fail
      go_end0
      exact ⟨⟨_, rfl⟩, HE.out, HB3.out⟩
    · have htg : s.tg = [] := by unfold Stt.tg; rw [htl]
      have hl := h4 htl
      have hml : (s.topR.map Rp.g ++ (s.tg ++ [])).length = m.length + 1 := by rw [htr, htg]; simp
      have hlast : ((s.topR.map Rp.g ++ (s.tg ++ [])).map pcell)[m.length]? = some (pcell r.g) := by rw [htr, htg]; simp
      have hor : POne Q (inQ Q) w1 r := by
        have hf := hst.frs
        unfold Stt.topR at htr
        cases hfs : s.fs with
        | nil =>
          rw [hfs] at hf htr
          exact hf.2 r (by rw [show s.R0 = m ++ [r] from htr]; simp)
        | cons f fs =>
          rw [hfs] at hf htr
          exact hf.2.2.2.2.1 r (by rw [show f.R = m ++ [r] from htr]; simp)
      have hkd : r.n.kind = 1 ∨ r.n.kind = 3 := by
        cases hor.kn with
        | elem hk _ => exact .inl hk
        | comm hk _ _ _ _ => exact .inr hk
        | text hk _ _ _ _ _ _ =>
          have := inner_top s []
          have htn : s.tn = [] := by unfold Stt.tn; rw [htl]
          rw [htr, htn, hbs, List.map_append, List.append_nil, List.append_nil] at this
          rw [this, show [r].map Rp.n = [r.n] from rfl, lastText_snoc, hk] at hl
          cases hl
      rw [hml] at c6 hcl hck
      obtain ⟨bb, oo, rfl, _, hx⟩ := hcl (by rw [List.length_map, hml]; omega)
      have c9 : w1.cell? ⟨bb, oo + m.length, none⟩ = some (.pointer (some ⟨r.g, 0, none⟩)) := hx m.length _ hlast
      obtain ⟨kd, hkd2⟩ : ∃ kd, tkd r.n.kind = kd := ⟨_, rfl⟩
      have c10 : w1.cell? ⟨r.g, 0, none⟩ = some (.int .i64 kd) := by rw [← hkd2]; exact hor.nd.c0
      have B3 : (kd == 3) = false := by
        rw [← hkd2]
        rcases hkd with e | e <;> rw [e] <;> rfl
      have HP := Lib.hid HPL
      have HC := Lib.hid (fun k => (⟨x0, x3, c6, c9, c10⟩ : (w1.drewN k).cell? ⟨w.heap.size, 0, none⟩ = some (.int .i64 3) ∧ (w1.drewN k).cell? ⟨w.heap.size, 3, none⟩ = some (.string tx) ∧ (w1.drewN k).cell? ⟨s.topG, 6, none⟩ = some (.slice (some ⟨bb, oo, none⟩) (m.length + 1) ck) ∧
        (w1.drewN k).cell? ⟨bb, oo + m.length, none⟩ = some (.pointer (some ⟨r.g, 0, none⟩)) ∧ (w1.drewN k).cell? ⟨r.g, 0, none⟩ = some (.int .i64 kd)))
      obtain ⟨tg, htg'⟩ : ∃ g, s.topG = g := ⟨_, rfl⟩
      obtain ⟨sa, hsa⟩ : ∃ g, s.a = g := ⟨_, rfl⟩
      obtain ⟨rg, hrg⟩ : ∃ g, r.g = g := ⟨_, rfl⟩
      obtain ⟨ml, hmm⟩ : ∃ g, m.length = g := ⟨_, rfl⟩
      rw [htg', hrg, hmm] at HC
      rw [htg'] at HP
      rw [hsa] at HP HADD ⊢
      have hmz : ml ≤ 100000000 := by
        have := row_small hzs
        rw [hml, hmm] at this
        omega
      have HB := Lib.hid hb1
      have HL := Lib.hid (And.intro hl hne)
      have i1 : (ml : Int) < ((ml + 1 : Nat) : Int) := by omega
      have i2 : (0 : Int) ≤ (ml : Int) := by omega
      clear hb1 hs1 hbx c6 c9 c10 HPL hrow hblk hc6 hty hv hck hcl hst h5 h4 h3 hl hne htg' hsa htl htr htg hbs h hzs hrg hmm hml hlast hor hkd hkd2 hx
      go_enter Tryz.func182, Tryz.ntmps182
      go_wp2_with fail
      refine HP.out.mono ?_
      rintro e wd ⟨rfl, k, hwd⟩
      have hfa := HC.out k
      rw [← hwd] at hfa
      obtain ⟨y0, y3, y6, y9, y10⟩ := hfa
      have hBd : Below w.heap.size w wd := by rw [hwd]; exact bel_drewN HB.out k
      obtain ⟨w2, hw2⟩ : ∃ w2, wd.alloc (.cells #[.int .i64 3, .string ⟨#[]⟩, .slice none 0 0, .string tx, .pointer none, .slice none 0 0, .slice none 0 0] 166) = w2 := ⟨_, rfl⟩
      have hb2 : Below w.heap.size w w2 := by rw [← hw2]; exact hBd.alloc hBd.size _
      have HG := Lib.hid (show w2.heap[wd.heap.size]? = some (.cells #[.int .i64 3, .string ⟨#[]⟩, .slice none 0 0, .string tx, .pointer none, .slice none 0 0, .slice none 0 0] 166 (0, 0)) by rw [← hw2]; exact box_here wd _ _)
      have HKN := Lib.hid (show knew w w2 wd.heap.size by right; exact ⟨hBd.size, by rw [← hw2]; simp⟩)
      have HAD := Lib.hid (HADD.out w2 hb2 wd.heap.size)
      have HB2 := Lib.hid (hb2.mono hlo)
      clear hwd hBd hb2
      go_wp2_with fail
      refine HAD.out.mono ?_
      rintro e w3 ⟨⟨x, rfl⟩, hp, hb3⟩
      have HE := Lib.hid (text_end hp hlo HKN.out HG.out HL.out.1 HL.out.2)
      have HB3 := Lib.hid (HB2.out.trans hb3)
      clear hp hb3 hw2
      go_wp2_with fail
      go_end0
      exact ⟨⟨_, rfl⟩, HE.out, HB3.out⟩
    · have htg : s.tg = [t.g] := by unfold Stt.tg; rw [htl]
      have htlw := hst.tl t htl
      have hml : (s.topR.map Rp.g ++ (s.tg ++ [])).length = s.topR.length + 1 := by rw [htg]; simp
      have hlast : ((s.topR.map Rp.g ++ (s.tg ++ [])).map pcell)[s.topR.length]? = some (pcell t.g) := by rw [htg]; simp
      rw [hml] at c6 hcl hck
      obtain ⟨bb, oo, rfl, _, hx⟩ := hcl (by rw [List.length_map, hml]; omega)
      have c9 : w1.cell? ⟨bb, oo + s.topR.length, none⟩ = some (.pointer (some ⟨t.g, 0, none⟩)) := hx _ _ hlast
      have c10 : w1.cell? ⟨t.g, 0, none⟩ = some (.int .i64 3) := cell_at htlw.blk 0
      have hmo := text_small htl hzs
      have HW := Lib.hid (fun k => write7_any lo t.g (.int .i64 3) (.string ⟨#[]⟩) (.slice none 0 0) (.string t.pre) t.bp t.bv (.slice none 0 0) (Lib.byteCells t.mo) tx (w1.drewN k) htlw.blk htlw.bp (by rw [Lib.byteCells_length]; exact htlw.own) (by rw [Lib.byteCells_length]; omega) (by show lo ≤ w1.heap.size; omega))
      have HE := Lib.hid (fun k w' (hw : Wrote lo t.g (.int .i64 3) (.string ⟨#[]⟩) (.slice none 0 0) (.string t.pre) t.bv (.slice none 0 0) (Lib.byteCells t.mo) tx (w1.drewN k) w') => (by
        obtain ⟨bv, hS⟩ := (hst.drewN k).wrote htl hw hne
        refine ⟨⟨_, rfl⟩, ⟨P, Q, { s with tl := some (t.grown bv tx) }, rfl, by rw [grown_bst s t bv tx htl hne, hbs], h3, (fun e => by cases e), hS, fun k hk => hk.elim⟩, (bel_drewN (hb1.mono hlo) k).trans (wrote_bel hw (hst.lo t.g (.inr (.inr (.inr (.inr (.inr ⟨t, htl, .inl rfl⟩)))))).1 (fun b hb => (hst.lo b (.inr (.inr (.inr (.inr (.inr ⟨t, htl, .inr hb⟩)))))).1) (by show lo ≤ w1.heap.size; omega))⟩ : Did lo s.a (addTo b (textN tx)) N w (.returned (.tuple #[])) w'))
      have HP := Lib.hid HPL
      have HC := Lib.hid (fun k => (⟨x0, x3, c6, c9, c10⟩ : (w1.drewN k).cell? ⟨w.heap.size, 0, none⟩ = some (.int .i64 3) ∧ (w1.drewN k).cell? ⟨w.heap.size, 3, none⟩ = some (.string tx) ∧ (w1.drewN k).cell? ⟨s.topG, 6, none⟩ = some (.slice (some ⟨bb, oo, none⟩) (s.topR.length + 1) ck) ∧
        (w1.drewN k).cell? ⟨bb, oo + s.topR.length, none⟩ = some (.pointer (some ⟨t.g, 0, none⟩)) ∧ (w1.drewN k).cell? ⟨t.g, 0, none⟩ = some (.int .i64 3)))
      obtain ⟨tg, htg'⟩ : ∃ g, s.topG = g := ⟨_, rfl⟩
      obtain ⟨sa, hsa⟩ : ∃ g, s.a = g := ⟨_, rfl⟩
      obtain ⟨rg, hrg⟩ : ∃ g, t.g = g := ⟨_, rfl⟩
      obtain ⟨ml, hmm⟩ : ∃ g, s.topR.length = g := ⟨_, rfl⟩
      rw [htg', hrg, hmm] at HC
      rw [htg'] at HP
      rw [hsa] at HP HE ⊢
      rw [hrg] at HW HE
      have hmz : ml ≤ 100000000 := by
        have := row_small hzs
        rw [hml, hmm] at this
        omega
      have i1 : (ml : Int) < ((ml + 1 : Nat) : Int) := by omega
      have i2 : (0 : Int) ≤ (ml : Int) := by omega
      clear hb1 hs1 hbx c6 c9 c10 HPL hrow hblk hc6 hty hv hck hcl hst h5 h4 h3 hne htg' hsa htg hbs h hzs hrg hmm hml hlast hx HADD hmo htlw
      go_enter Tryz.func182, Tryz.ntmps182
      go_wp2_with fail
      refine HP.out.mono ?_
      rintro e wd ⟨rfl, k, hwd⟩
      have hfa := HC.out k
      rw [← hwd] at hfa
      obtain ⟨y0, y3, y6, y9, y10⟩ := hfa
      have z3 : wd.drew.cell? ⟨w.heap.size, 3, none⟩ = some (.string tx) := y3
      have z9 : wd.drew.cell? ⟨bb, oo + ml, none⟩ = some (.pointer (some ⟨rg, 0, none⟩)) := y9
      have hw2 := HW.out (k + 1)
      have he2 := HE.out (k + 1)
      have hdd : w1.drewN (k + 1) = wd.drew := by rw [hwd]; rfl
      rw [hdd] at hw2 he2
      have HW2 := Lib.hid hw2
      have HE2 := Lib.hid he2
      clear hwd hdd hw2 he2 HW HE HC HP
      have i3 : IntKind.i64.wrap (ml : Int) = (ml : Int) := by rw [IntKind.wrap_i64]; omega
      have i4 : (ml : Int) < (ml : Int) + 1 := by omega
      go_upto_region 4 with fail
      go_region_with (first
        | (go_at_call 79; refine HW2.out.mono ?_; rintro e w3 ⟨⟨x, rfl⟩, hwr⟩))
      all_goals go_wp2_with fail
      all_goals go_end0
      all_goals exact HE2.out _ hwr

end Go.Proofs.YthmnnalamaponaaGreat

/- Part MpS. -/
namespace Go.Proofs.YthmnnalamaponaaGreat
open Go.RowKit Go.Maps
set_option linter.unusedVariables false

/-- How a slice is told in a datum: its block, its length, its capacity. -/
def slcElem : Value → Option (DataW Unit × List MemPlace)
  | .slice none 0 0 => some (.agg [], [])
  | .slice (some ⟨b, 0, none⟩) n c => some (.agg [.lit (.int .i64 b), .lit (.int .i64 n), .lit (.int .i64 c)], [])
  | _ => none
/-- What is found under a key. -/
def slV : Option (Nat × Nat × Nat) → Value
  | none => .slice none 0 0
  | some (b, n, c) => .slice (some ⟨b, 0, none⟩) n c
def slD : Option (Nat × Nat × Nat) → DataW Unit
  | none => .agg []
  | some (b, n, c) => .agg [.lit (.int .i64 b), .lit (.int .i64 n), .lit (.int .i64 c)]
theorem slcElem_mk (x : Option (Nat × Nat × Nat)) : slcElem (slV x) = some (slD x, []) := by
  rcases x with _ | ⟨b, n, c⟩ <;> rfl
theorem slcElem_inv {v : Value} {x : Option (Nat × Nat × Nat)} {ps : List MemPlace} (h : slcElem v = some (slD x, ps)) : v = slV x := by
  unfold slcElem at h
  split at h
  · rcases x with _ | ⟨b, n, c⟩
    · rfl
    · simp [slD] at h
  · rcases x with _ | ⟨b, n, c⟩
    · simp [slD] at h
    · simp [slD] at h
      obtain ⟨⟨h1, h2, h3⟩, _⟩ := h
      rename_i b' n' c' _
      obtain rfl : b' = b := by omega
      obtain rfl : n' = n := by omega
      obtain rfl : c' = c := by omega
      rfl
  · cases h

/-- What a datum says of texts. -/
def MView (D : DataW Unit) (f : List UInt8 → Option (Nat × Nat × Nat)) : Prop :=
  IsMap D ∧ ∀ l, Maps.has D (.string l) = (f l).isSome ∧ ∀ z, D.atKey (.string l) z = if (f l).isSome = true then slD (f l) else z
theorem MView.empty : MView (.map []) (fun _ => none) := ⟨isMap_empty, fun l => ⟨rfl, fun z => rfl⟩⟩
def updM {α : Type} (f : List UInt8 → Option α) (k : List UInt8) (v : α) : List UInt8 → Option α := fun l => if l = k then some v else f l
theorem MView.put {D : DataW Unit} {f : List UInt8 → Option (Nat × Nat × Nat)} (h : MView D f) (k : List UInt8) (v : Nat × Nat × Nat) : MView (D.put (.string k) (slD (some v))) (updM f k v) := by
  refine ⟨h.1.put _ _, fun l => ?_⟩
  unfold updM
  by_cases e : l = k
  · subst e
    rw [if_pos rfl]
    exact ⟨has_put_same h.1 (show WideAt.IsKeyLit (.string l) from trivial) _, fun z => atKey_put_same h.1 (show WideAt.IsKeyLit (.string l) from trivial) _ z⟩
  · rw [if_neg e]
    have hne : (Lit.string l) ≠ .string k := by intro h; injection h; exact e ‹_›
    refine ⟨?_, fun z => ?_⟩
    · rw [has_put_other hne]; exact (h.2 l).1
    · rw [atKey_put_other hne]; exact (h.2 l).2 z

/-- Block b is a map of at most n entries: under a key that g tells of lies a slice of those texts. -/
def MapL (w : World) (b n : Nat) (g : List UInt8 → Option (List (List UInt8))) : Prop := ∃ (f : List UInt8 → Option (Nat × Nat × Nat)) (D : DataW Unit), w.ownsMap Tryz.prog 9 slcElem b n D ∧ MView D f ∧
  ∀ o, (f o).isSome = (g o).isSome ∧ ∀ bx m c Ls, f o = some (bx, m, c) → g o = some Ls → m = Ls.length ∧ m ≤ c ∧ bx < w.heap.size ∧ bx ≠ b ∧ ∀ j x, Ls[j]? = some x → w.cell? ⟨bx, j, none⟩ = some (.string (tB x))

theorem MapL.below {w w' : World} {b n : Nat} {g : List UInt8 → Option (List (List UInt8))} (h : MapL w b n g) (hb : Below w.heap.size w w') : MapL w' b n g := by
  obtain ⟨f, D, ⟨es, clock, hh, F, hs, hD⟩, hv, hc⟩ := h
  have hlt := (Array.getElem?_eq_some_iff.1 hh).1
  refine ⟨f, D, ⟨es, clock, (hb.block b hlt).trans hh, F, hs, hD⟩, hv, fun o => ⟨(hc o).1, fun bx m c Ls hf hg => ?_⟩⟩
  obtain ⟨h1, h2, h3, h4, h5⟩ := (hc o).2 bx m c Ls hf hg
  exact ⟨h1, h2, Nat.lt_of_lt_of_le h3 hb.size, h4, fun j x hj => (hb.cell (p := ⟨bx, j, none⟩) h3).trans (h5 j x hj)⟩
theorem MapL.lt {w : World} {b n : Nat} {g : List UInt8 → Option (List (List UInt8))} (h : MapL w b n g) : b < w.heap.size := by
  obtain ⟨f, D, h, _⟩ := h
  exact h.lt
theorem MapL.made (w : World) : MapL (w.alloc (.map #[] 0)) w.heap.size 0 (fun _ => none) :=
  ⟨fun _ => none, _, World.ownsMap_made _ _ _ _, MView.empty, fun o => ⟨rfl, fun bx m c Ls hf => by cases hf⟩⟩
theorem MapL.congr {w : World} {b n : Nat} {f g : List UInt8 → Option (List (List UInt8))} (h : MapL w b n f) (e : ∀ l, f l = g l) : MapL w b n g := by
  have : f = g := funext e
  subst this
  exact h

/-- An entry of a map's literal: a slice that has just been made. -/
theorem MapL.insert {W : World} {b n : Nat} {g : List UInt8 → Option (List (List UInt8))} (h : MapL W b n g) (hn : n < 1000) (T : TypeId) (hT : Tryz.prog.underlying T = some (.map 9 71)) (Ls : List (List UInt8)) (cs : Array Value) (ty : TypeId)
    (hcs : cs.toList = Ls.map (fun x => .string (tB x))) (k : ByteArray) (hk : k.size ≤ maxLen) (L : Nat) (hL : L = Ls.length) (nb : Nat) (hnb : nb = W.heap.size) :
    ∃ w', (Instr.mapUpdate T (.map (some b)) (.string k) (.slice (some ⟨nb, 0, none⟩) L L)).run Tryz.prog (W.alloc (.cells cs ty)) = .ok () w' ∧ MapL w' b (n + 1) (updM g k.data.toList Ls) ∧ (W.alloc (.cells cs ty)).grownBy w' (some b) := by
  subst hnb
  have hlt := h.lt
  have h1 := h.below (below_new W (.cells cs ty))
  obtain ⟨f, D, hown, hvw, hc⟩ := h1
  obtain ⟨w', hrun, r1, r2⟩ := hown.update strKeyed hT (by unfold maxLen; omega) (Go.WideMaps.keyOf_string_mk Tryz.underlying9 hk) (slcElem_mk (some (W.heap.size, L, L)))
  have hsz := r2.size
  refine ⟨w', hrun, ⟨updM f k.data.toList (W.heap.size, L, L), _, r1, hvw.put _ _, fun o' => ?_⟩, r2⟩
  unfold updM
  by_cases e : o' = k.data.toList
  · rw [if_pos e, if_pos e]
    refine ⟨rfl, fun bx m' c Ls' hf hg' => ?_⟩
    injection hf with hf
    injection hg' with hg'
    subst hg'
    injection hf with e1 e2
    injection e2 with e2 e3
    subst e1 e2 e3
    refine ⟨hL, Nat.le_refl _, by have := r2.size; simp at this; omega, by omega, fun j x hj => ?_⟩
    rw [World.cell?_of_block (a := ⟨W.heap.size, j, none⟩) (r2.block _ (by simp) (by simp; omega)), cell_at (box_here W cs ty), ← Array.getElem?_toList, hcs, List.getElem?_map, hj]
    rfl
  · rw [if_neg e, if_neg e]
    refine ⟨(hc o').1, fun bx m' c Ls' hf hg' => ?_⟩
    obtain ⟨h1, h2, h3, h4, h5⟩ := (hc o').2 bx m' c Ls' hf hg'
    refine ⟨h1, h2, Nat.lt_of_lt_of_le h3 hsz, h4, fun j x hj => ?_⟩
    rw [World.cell?_of_block (a := ⟨bx, j, none⟩) (r2.block _ h3 (by simpa using h4))]
    exact h5 j x hj

/-- 'm[o]': nothing, or a slice of the texts. -/
theorem MapL.get {w : World} {b n : Nat} {g : List UInt8 → Option (List (List UInt8))} {T : TypeId} (h : MapL w b n g) (hT : Tryz.prog.underlying T = some (.map 9 71)) (hz : (zeroValue 71).run Tryz.prog w = .ok (.slice none 0 0) w) (k : ByteArray) (hk : k.size ≤ maxLen) :
    (g k.data.toList = none ∧ (Instr.lookup T (.map (some b)) (.string k) false).run Tryz.prog w = .ok (.slice none 0 0) w) ∨
    ∃ Ls bx c, g k.data.toList = some Ls ∧ (Instr.lookup T (.map (some b)) (.string k) false).run Tryz.prog w = .ok (.slice (some ⟨bx, 0, none⟩) Ls.length c) w ∧ Ls.length ≤ c ∧ bx < w.heap.size ∧ ∀ j x, Ls[j]? = some x → w.cell? ⟨bx, j, none⟩ = some (.string (tB x)) := by
  obtain ⟨f, D, hown, hv, hc⟩ := h
  obtain ⟨v, ps, hrun, hv2⟩ := hown.lookup strKeyed hT hz (slcElem_mk none) (Go.WideMaps.keyOf_string_mk Tryz.underlying9 hk)
  have hat := (hv.2 k.data.toList).2 (slD none)
  rw [hat] at hv2
  have hsm := (hc k.data.toList).1
  cases hf : f k.data.toList with
  | none =>
    rw [hf] at hv2 hsm
    have hg : g k.data.toList = none := by
      cases hg : g k.data.toList with
      | none => rfl
      | some y => rw [hg] at hsm; cases hsm
    rw [if_neg (by simp)] at hv2
    have := slcElem_inv hv2
    subst this
    exact .inl ⟨hg, hrun⟩
  | some y =>
    obtain ⟨bx, m, c⟩ := y
    rw [hf] at hv2 hsm
    rw [if_pos (show (some (bx, m, c)).isSome = true from rfl)] at hv2
    have := slcElem_inv hv2
    subst this
    cases hg : g k.data.toList with
    | none => rw [hg] at hsm; cases hsm
    | some Ls =>
      obtain ⟨h1, h2, h3, h4, h5⟩ := (hc k.data.toList).2 bx m c Ls hf hg
      subst h1
      exact .inr ⟨Ls, bx, c, rfl, hrun, h2, h3, h5⟩

end Go.Proofs.YthmnnalamaponaaGreat

/- Part Made. -/
namespace Go.Proofs.YthmnnalamaponaaGreat
open Go.RowKit Go.Maps
set_option linter.unusedVariables false

def mdK0 : List UInt8 := [112]
def mdL0 : List (List UInt8) := [[98, 108, 111, 99, 107, 113, 117, 111, 116, 101], [100, 105, 118], [104, 49], [104, 50], [104, 114], [108, 105], [111, 108], [112], [112, 114, 101], [116, 97, 98, 108, 101], [117, 108]]
def mdK1 : List UInt8 := [108, 105]
def mdL1 : List (List UInt8) := [[108, 105]]
def mdK2 : List UInt8 := [100, 116]
def mdL2 : List (List UInt8) := [[100, 100], [100, 116]]
def mdK3 : List UInt8 := [100, 100]
def mdL3 : List (List UInt8) := [[100, 100], [100, 116]]
def mdK4 : List UInt8 := [111, 112, 116, 105, 111, 110]
def mdL4 : List (List UInt8) := [[111, 112, 116, 105, 111, 110]]
def mdK5 : List UInt8 := [116, 100]
def mdL5 : List (List UInt8) := [[116, 100], [116, 114]]
def mdK6 : List UInt8 := [116, 114]
def mdL6 : List (List UInt8) := [[116, 114]]
/-- What the map holds. -/
def clG : List UInt8 → Option (List (List UInt8)) := updM (updM (updM (updM (updM (updM (updM (fun _ => none) mdK0 mdL0) mdK1 mdL1) mdK2 mdL2) mdK3 mdL3) mdK4 mdL4) mdK5 mdL5) mdK6 mdL6
theorem clG_eq (o : List UInt8) : clG o = if closedBy o = [] then none else some (closedBy o) := by
  by_cases h : o = mdK6 ∨ o = mdK5 ∨ o = mdK4 ∨ o = mdK3 ∨ o = mdK2 ∨ o = mdK1 ∨ o = mdK0
  · rcases h with rfl | rfl | rfl | rfl | rfl | rfl | rfl <;> decide +kernel
  · simp only [not_or] at h
    obtain ⟨h6, h5, h4, h3, h2, h1, h0⟩ := h
    have hc : closedBy o = [] := by
      unfold closedBy
      unfold mdK0 at h0
      unfold mdK1 at h1
      unfold mdK2 at h2
      unfold mdK3 at h3
      unfold mdK4 at h4
      unfold mdK5 at h5
      unfold mdK6 at h6
      rw [if_neg h0, if_neg h1, if_neg (by rintro (e | e); exact h2 e; exact h3 e), if_neg h4, if_neg h5, if_neg h6]
    rw [if_pos hc]
    unfold clG updM
    rw [if_neg h6, if_neg h5, if_neg h4, if_neg h3, if_neg h2, if_neg h1, if_neg h0]

/-- Block b is the map of what closes what. -/
def Made (w : World) (b : Nat) : Prop := MapL w b 7 clG
theorem Made.below {w w' : World} {b : Nat} (h : Made w b) (hb : Below w.heap.size w w') : Made w' b := MapL.below h hb

set_option maxHeartbeats 4000000 in
set_option maxRecDepth 100000 in
theorem made_any (w : World) : Calls Tryz.prog 190 #[] w fun e w' => ∃ b, e = .returned (.map (some b)) ∧ Made w' b ∧ Below w.heap.size w w' := by
  have hmm := @run_makeMap Tryz.prog
  have h0 : MapL (w.alloc (.map #[] 0)) w.heap.size 0 (fun _ => none) := MapL.made w
  have b0 : Below w.heap.size w (w.alloc (.map #[] 0)) := below_new w _
  obtain ⟨w1, e1, h1, r1⟩ := h0.insert (by omega) 180 Tryz.underlying180 mdL0 #[.string ⟨#[98, 108, 111, 99, 107, 113, 117, 111, 116, 101]⟩, .string ⟨#[100, 105, 118]⟩, .string ⟨#[104, 49]⟩, .string ⟨#[104, 50]⟩, .string ⟨#[104, 114]⟩, .string ⟨#[108, 105]⟩, .string ⟨#[111, 108]⟩, .string ⟨#[112]⟩, .string ⟨#[112, 114, 101]⟩, .string ⟨#[116, 97, 98, 108, 101]⟩, .string ⟨#[117, 108]⟩] 9 rfl ⟨#[112]⟩ (by decide) 11 rfl (w.heap.size + 1) (by simp)
  have b1 : Below w.heap.size w w1 := (b0.alloc b0.size _).grown r1 (by have := b0.size; simp; omega) (fun g hg => by injection hg with hg; omega)
  clear r1
  obtain ⟨w2, e2, h2, r2⟩ := h1.insert (by omega) 180 Tryz.underlying180 mdL1 #[.string ⟨#[108, 105]⟩] 9 rfl ⟨#[108, 105]⟩ (by decide) 1 rfl _ rfl
  have b2 : Below w.heap.size w w2 := (b1.alloc b1.size _).grown r2 (by have := b1.size; simp; omega) (fun g hg => by injection hg with hg; omega)
  clear r2
  obtain ⟨w3, e3, h3, r3⟩ := h2.insert (by omega) 180 Tryz.underlying180 mdL2 #[.string ⟨#[100, 100]⟩, .string ⟨#[100, 116]⟩] 9 rfl ⟨#[100, 116]⟩ (by decide) 2 rfl _ rfl
  have b3 : Below w.heap.size w w3 := (b2.alloc b2.size _).grown r3 (by have := b2.size; simp; omega) (fun g hg => by injection hg with hg; omega)
  clear r3
  obtain ⟨w4, e4, h4, r4⟩ := h3.insert (by omega) 180 Tryz.underlying180 mdL3 #[.string ⟨#[100, 100]⟩, .string ⟨#[100, 116]⟩] 9 rfl ⟨#[100, 100]⟩ (by decide) 2 rfl _ rfl
  have b4 : Below w.heap.size w w4 := (b3.alloc b3.size _).grown r4 (by have := b3.size; simp; omega) (fun g hg => by injection hg with hg; omega)
  clear r4
  obtain ⟨w5, e5, h5, r5⟩ := h4.insert (by omega) 180 Tryz.underlying180 mdL4 #[.string ⟨#[111, 112, 116, 105, 111, 110]⟩] 9 rfl ⟨#[111, 112, 116, 105, 111, 110]⟩ (by decide) 1 rfl _ rfl
  have b5 : Below w.heap.size w w5 := (b4.alloc b4.size _).grown r5 (by have := b4.size; simp; omega) (fun g hg => by injection hg with hg; omega)
  clear r5
  obtain ⟨w6, e6, h6, r6⟩ := h5.insert (by omega) 180 Tryz.underlying180 mdL5 #[.string ⟨#[116, 100]⟩, .string ⟨#[116, 114]⟩] 9 rfl ⟨#[116, 100]⟩ (by decide) 2 rfl _ rfl
  have b6 : Below w.heap.size w w6 := (b5.alloc b5.size _).grown r6 (by have := b5.size; simp; omega) (fun g hg => by injection hg with hg; omega)
  clear r6
  obtain ⟨w7, e7, h7, r7⟩ := h6.insert (by omega) 180 Tryz.underlying180 mdL6 #[.string ⟨#[116, 114]⟩] 9 rfl ⟨#[116, 114]⟩ (by decide) 1 rfl _ rfl
  have b7 : Below w.heap.size w w7 := (b6.alloc b6.size _).grown r7 (by have := b6.size; simp; omega) (fun g hg => by injection hg with hg; omega)
  clear r7
  have H7 := Lib.hid (And.intro h7 b7)
  clear h0 h1 h2 h3 h4 h5 h6 h7 b0 b1 b2 b3 b4 b5 b6 b7
  go_enter Tryz.func190, Tryz.ntmps190
  go_wp2_with fail
  go_ret
  exact ⟨_, rfl, H7.out.1, H7.out.2⟩

end Go.Proofs.YthmnnalamaponaaGreat

/- Part MdlA. -/
namespace Go.Proofs.YthmnnalamaponaaGreat
open Go.RowKit Go.Maps
set_option linter.unusedVariables false

/-- A slice of these texts. -/
def TextsAt (w : World) (A : Option Addr) (Ls : List (List UInt8)) : Prop := ∀ (j : Nat) (x : List UInt8), Ls[j]? = some x → ∃ bx, A = some ⟨bx, 0, none⟩ ∧ w.cell? ⟨bx, j, none⟩ = some (.string (tB x))
structure SxAt (w wr : World) (Ls : List (List UInt8)) (b : List UInt8) (k : Nat) : Prop where
  le : k ≤ Ls.length
  no : ∀ j x, j < k → Ls[j]? = some x → x ≠ b
  bel : Below w.heap.size w wr
  cells : wr.heap = w.heap
def SxRel (w : World) (Ls : List (List UInt8)) (b : List UInt8) (x : Value) (wr : World) : Prop := ∃ k : Nat, x = .int .i64 k ∧ SxAt w wr Ls b k
theorem SxAt.done {w wr : World} {Ls : List (List UInt8)} {b : List UInt8} (h : SxAt w wr Ls b Ls.length) : Ls.any (fun x => decide (x = b)) = false := by
  rw [List.any_eq_false]
  intro x hx
  obtain ⟨j, hj, he⟩ := List.mem_iff_getElem.1 hx
  have := h.no j x hj (by rw [List.getElem?_eq_getElem hj, he])
  simpa using this
theorem cell_heap {W W' : World} (h : W'.heap = W.heap) (p : Addr) : W'.cell? p = W.cell? p := by unfold World.cell?; rw [h]

set_option maxHeartbeats 2000000 in
set_option maxRecDepth 100000 in
theorem sindex_any (Ls : List (List UInt8)) (A : Option Addr) (c : Nat) (b : ByteArray) (w : World) (hT : TextsAt w A Ls) (hz : Ls.length ≤ 100000) :
    Calls Tryz.prog 193 #[.slice A Ls.length c, .string b] w fun e w' => ∃ x : Int, e = .returned (.int .i64 x) ∧ decide (0 ≤ x) = Ls.any (fun x => decide (x = b.data.toList)) ∧ Below w.heap.size w w' := by
  have HT := Lib.hid hT
  clear hT
  go_enter Tryz.func193, Tryz.ntmps193
  go_wp2_with fail
  go_loopw [8] (fun x wr => SxRel w Ls b.data.toList x wr) (fun x _ => Ls.length - (intOf x).toNat)
  case atStart => exact ⟨0, rfl, ⟨by omega, fun j x h => by omega, Below.refl _ _, rfl⟩⟩
  case round =>
    obtain ⟨k, rfl, HR⟩ := hrel
    have hk := HR.le
    have hbr := HR.bel
    have HRR := Lib.hid HR
    clear HR
    by_cases hlt : k < Ls.length
    · obtain ⟨x, hx⟩ : ∃ x, Ls[k]? = some x := ⟨_, List.getElem?_eq_getElem hlt⟩
      obtain ⟨bx, rfl, q0'⟩ := HT.out k x hx
      have q0 : wr.cell? ⟨bx, k, none⟩ = some (.string (tB x)) := (cell_heap HRR.out.cells _).trans q0'
      have hst := str_eq b (tB x)
      have HX := Lib.hid hx
      have HK1 := Lib.hid (show k + 1 ≤ Ls.length from hlt)
      have i1 : (k : Int) < (Ls.length : Int) := by omega
      clear hx q0'
      by_cases hxb : x = b.data.toList
      · have B0 : (b.toList == (tB x).toList) = true := by rw [hst, decide_eq_true (by rw [hxb, tB_of])]
        have HF := Lib.hid (show Ls.any (fun x => decide (x = b.data.toList)) = true by rw [List.any_eq_true]; exact ⟨x, List.mem_of_getElem? HX.out, by simp [hxb]⟩)
        clear hst hxb
        go_wp2_with fail
        go_ret
        exact ⟨_, rfl, by rw [HF.out]; simp, hbr⟩
      · have B0 : (b.toList == (tB x).toList) = false := by rw [hst, decide_eq_false (fun e => hxb (by rw [e, tB_list]))]
        have HXB := Lib.hid hxb
        clear hst hxb
        go_wp2_with fail
        go_roundw
        case rel => exact ⟨k + 1, by go_num, HK1.out, fun j y hj hy => by
          rcases Nat.lt_or_ge j k with h | h
          · exact HRR.out.no j y h hy
          · have : j = k := by omega
            subst this
            rw [HX.out] at hy
            injection hy with hy
            subst hy
            exact HXB.out, hbr, HRR.out.cells⟩
        case measure => simp [intOf]; omega
    · have hke : k = Ls.length := by omega
      have HDN := Lib.hid (show SxAt w wr Ls b.data.toList Ls.length by rw [← hke]; exact HRR.out)
      have HF := Lib.hid HDN.out.done
      go_wp2_with fail
      go_ret
      exact ⟨_, rfl, by rw [HF.out]; rfl, hbr⟩

set_option maxHeartbeats 1000000 in
theorem scontains_any (Ls : List (List UInt8)) (A : Option Addr) (c : Nat) (b : ByteArray) (w : World) (hT : TextsAt w A Ls) (hz : Ls.length ≤ 100000) :
    Calls Tryz.prog 192 #[.slice A Ls.length c, .string b] w fun e w' => e = .returned (.bool (Ls.any (fun x => decide (x = b.data.toList)))) ∧ Below w.heap.size w w' := by
  have H := Lib.hid (sindex_any Ls A c b w hT hz)
  clear hT
  obtain ⟨q, hq⟩ : ∃ q, Ls.any (fun x => decide (x = b.data.toList)) = q := ⟨_, rfl⟩
  rw [hq] at H ⊢
  clear hq
  go_enter Tryz.func192, Tryz.ntmps192
  go_wp2_with fail
  refine H.out.mono ?_
  rintro e w2 ⟨x, rfl, hx, hb⟩
  go_wp2_with fail
  go_ret
  exact ⟨by first | rfl | rw [← hx], hb⟩

theorem closes_len (o : List UInt8) : (closedBy o).length ≤ 11 := by
  unfold closedBy
  repeat' split
  all_goals decide

set_option maxHeartbeats 1000000 in
theorem closesD_any (B : Nat) (o b : ByteArray) (w : World) (hM : Made w B) (ho : o.size ≤ maxLen) :
    Calls Tryz.prog 191 #[.map (some B), .string o, .string b] w fun e w' => e = .returned (.bool (closesB o.data.toList b.data.toList)) ∧ Below w.heap.size w w' := by
  have hz : (zeroValue 71).run Tryz.prog w = .ok (.slice none 0 0) w := by kernel_rfl
  have hle := closes_len o.data.toList
  rcases MapL.get hM Tryz.underlying180 hz o ho with ⟨hg, hrun⟩ | ⟨Ls, bx, c, hg, hrun, hc, hb, hcell⟩
  · have he : closedBy o.data.toList = [] := by
      rw [clG_eq] at hg
      by_cases h : closedBy o.data.toList = []
      · exact h
      · rw [if_neg h] at hg; cases hg
    have hq : closesB o.data.toList b.data.toList = false := by unfold closesB; rw [he]; rfl
    rw [hq]
    have H := Lib.hid (fun W => scontains_any [] none 0 b W (fun j x h => by simp at h) (by decide))
    clear hq he hg hle hM
    go_enter Tryz.func191, Tryz.ntmps191
    go_wp2_with fail
    refine (H.out _).mono ?_
    rintro e w2 ⟨rfl, hb2⟩
    go_wp2_with fail
    go_ret
    exact ⟨rfl, hb2⟩
  · have he : closedBy o.data.toList = Ls := by
      rw [clG_eq] at hg
      by_cases h : closedBy o.data.toList = []
      · rw [if_pos h] at hg; cases hg
      · rw [if_neg h] at hg; injection hg
    rw [he] at hle
    have H := Lib.hid (scontains_any Ls (some ⟨bx, 0, none⟩) c b w (fun j x h => ⟨bx, rfl, hcell j x h⟩) (by omega))
    have hq : closesB o.data.toList b.data.toList = Ls.any (fun x => decide (x = b.data.toList)) := by unfold closesB; rw [he]
    rw [hq]
    obtain ⟨q, hq2⟩ : ∃ q, Ls.any (fun x => decide (x = b.data.toList)) = q := ⟨_, rfl⟩
    rw [hq2] at H ⊢
    clear hq hq2 he hg hcell hM
    go_enter Tryz.func191, Tryz.ntmps191
    go_wp2_with fail
    refine H.out.mono ?_
    rintro e w2 ⟨rfl, hb2⟩
    go_wp2_with fail
    go_ret
    exact ⟨rfl, hb2⟩

set_option maxHeartbeats 1000000 in
theorem ClosesD (o b : ByteArray) (w : World) (ho : o.size ≤ maxLen) :
    Calls Tryz.prog 185 #[.string o, .string b] w fun e w' => e = .returned (.bool (closesB o.data.toList b.data.toList)) ∧ Below w.heap.size w w' := by
  go_enter Tryz.func185, Tryz.ntmps185
  go_wp2_with fail
  refine (made_any _).mono ?_
  rintro e w1 ⟨B, rfl, hM, hb1⟩
  have H := Lib.hid (closesD_any B o b w1 hM ho)
  obtain ⟨q, hq⟩ : ∃ q, closesB o.data.toList b.data.toList = q := ⟨_, rfl⟩
  rw [hq] at H
  have HQ := Lib.hid hq
  clear hq hM
  go_wp2_with fail
  refine H.out.mono ?_
  rintro e w2 ⟨rfl, hb2⟩
  go_wp2_with fail
  go_ret
  exact ⟨by rw [HQ.out]; rfl, below_after hb1 hb2⟩

end Go.Proofs.YthmnnalamaponaaGreat

/- Part BdX. -/
namespace Go.Proofs.YthmnnalamaponaaGreat
open Go.RowKit
set_option linter.unusedVariables false

/-! ### the names of the open elements -/
theorem popN_succ : ∀ (i : Nat) (b : Bst), popN (i + 1) b = popB (popN i b)
  | 0, b => rfl
  | i + 1, b => popN_succ i (popB b)
set_option maxRecDepth 100000 in
theorem tw_lt {α : Type} (p : α → Bool) : ∀ (l : List α) (i : Nat) (x : α), i < (l.takeWhile p).length → l[i]? = some x → p x = true
  | [], i, x, h, hx => by simp at hx
  | y :: l, i, x, h, hx => by
    rw [List.takeWhile_cons] at h
    by_cases hy : p y = true
    · rw [if_pos hy] at h
      cases i with
      | zero => simp at hx; rw [← hx]; exact hy
      | succ i => exact tw_lt p l i x (by simpa using h) (by simpa using hx)
    · rw [if_neg hy] at h
      simp at h
set_option maxRecDepth 100000 in
theorem tw_at {α : Type} (p : α → Bool) : ∀ (l : List α) (x : α), l[(l.takeWhile p).length]? = some x → p x = false
  | [], x, hx => by simp at hx
  | y :: l, x, hx => by
    rw [List.takeWhile_cons] at hx
    by_cases hy : p y = true
    · rw [if_pos hy] at hx
      exact tw_at p l x (by simpa using hx)
    · rw [if_neg hy] at hx
      simp at hx
      subst hx
      simpa using hy
set_option maxRecDepth 100000 in
theorem tw_leB {α : Type} (p : α → Bool) : ∀ (l : List α), (l.takeWhile p).length ≤ l.length
  | [] => Nat.le_refl _
  | y :: l => by
    rw [List.takeWhile_cons]
    split
    · have := tw_leB p l
      simp only [List.length_cons]
      omega
    · simp
set_option maxRecDepth 100000 in
theorem tw_allB {α : Type} (p : α → Bool) : ∀ (l : List α), (l.takeWhile p).length = l.length → l.all p = true
  | [], _ => rfl
  | y :: l, h => by
    rw [List.takeWhile_cons] at h
    by_cases hy : p y = true
    · rw [if_pos hy] at h
      rw [List.all_cons, hy, tw_allB p l (by simpa using h)]
      rfl
    · rw [if_neg hy] at h
      simp at h
set_option maxRecDepth 100000 in
/-- The i'th of the open elements is the innermost one when i are shut. -/
theorem popN_at {i : Nat} {b : Bst} {f : Fr} (h : b.fs[i]? = some f) : ∃ fr rest, (popN i b).fs = fr :: rest ∧ fr.name = f.name := by
  have hn := popN_names i b
  have hl : i < b.fs.length := (List.getElem?_eq_some_iff.1 h).1
  cases hp : (popN i b).fs with
  | nil =>
    rw [hp] at hn
    have := congrArg List.length hn
    simp at this
    omega
  | cons fr rest =>
    refine ⟨fr, rest, rfl, ?_⟩
    rw [hp] at hn
    have h2 : ((b.fs.map Fr.name).drop i)[0]? = some f.name := by rw [List.getElem?_drop, Nat.add_zero, List.getElem?_map, h]; rfl
    rw [← hn] at h2
    simpa using h2
set_option maxRecDepth 100000 in
theorem ba_eq {x y : ByteArray} : x.data.toList = y.data.toList ↔ x = y :=
  ⟨fun h => ByteArray.ext (Array.toList_inj.1 h), fun h => by rw [h]⟩
set_option maxRecDepth 100000 in
theorem ba_toList {x y : ByteArray} : x.toList = y.toList ↔ x = y := by rw [ByteArray.toList_eq, ByteArray.toList_eq]; exact ba_eq
set_option maxRecDepth 100000 in
theorem cnt_all (fs : List Fm) (x out : List Nd) (nm : ByteArray) : cntF fs nm.data.toList = 0 ↔ (bstOf fs x out).fs.all (notNamed nm) = true := by
  have h1 : (bstOf fs x out).fs.all (notNamed nm) = ((bstOf fs x out).fs.map Fr.name).all fun y => !decide (y = nm) := by rw [List.all_map]; rfl
  rw [h1, bst_names, List.all_map]
  unfold cntF
  rw [List.length_eq_zero_iff, List.filter_eq_nil_iff, List.all_eq_true]
  constructor
  · intro h f hf
    have := h f hf
    simp only [decide_eq_true_eq] at this
    show (!decide (f.name = nm)) = true
    simp only [Bool.not_eq_true', decide_eq_false_iff_not]
    exact fun e => this (ba_eq.2 e)
  · intro h f hf
    have h2 : (!decide (f.name = nm)) = true := h f hf
    simp only [Bool.not_eq_true', decide_eq_false_iff_not] at h2
    simp only [decide_eq_true_eq]
    exact fun e => h2 (ba_eq.1 e)

/-! ### end -/
def endB (b : Bst) (nm : ByteArray) : Bst := if b.fs.all (notNamed nm) = true then b else popN ((b.fs.takeWhile (notNamed nm)).length + 1) b
/-- The loop of end: i are shut. -/
structure EndAt (lo a : Nat) (b : Bst) (N : Nat) (j : Nat) (w w1 wr : World) : Prop where
  is : ∃ i, i ≤ j ∧ IsAtK lo a (popN i b) N (knew w w1) wr
  box : wr.heap[w.heap.size]? = w1.heap[w.heap.size]?
  bel : Below lo w wr

set_option maxHeartbeats 4000000 in
set_option maxRecDepth 100000 in
theorem end_anyB {lo a : Nat} {b : Bst} {N : Nat} {w : World} (h : IsAtB lo a b N w) (nm tx : ByteArray) (A : Option Addr) (n c : Nat) (hz : szB b ≤ 100000000) (hN : N ≤ 1000000000) (hnm : nm.size ≤ 100000000) (hlo : lo ≤ w.heap.size) :
    Calls Tryz.prog 181 #[.pointer (some ⟨a, 0, none⟩), .agg #[.int .i64 2, .string nm, .slice A n c, .string tx]] w (Did lo a (endB b nm) N w) := by
  have mixed : Tryz.prog.follows Departure.mixedOrders = true := by kernel_rfl
  obtain ⟨w1, hw1⟩ : ∃ w1, w.alloc (.cells #[.int .i64 2, .string nm, .slice A n c, .string tx] 129) = w1 := ⟨_, rfl⟩
  have hb1 : Below w.heap.size w w1 := by rw [← hw1]; exact below_new _ _
  have hs1 : w1.heap.size = w.heap.size + 1 := by rw [← hw1]; simp
  have hbx : w1.heap[w.heap.size]? = some (.cells #[.int .i64 2, .string nm, .slice A n c, .string tx] 129 (0, 0)) := by rw [← hw1]; exact box_here w _ _
  have hK1 : IsAtK lo a b N (knew w w1) w1 := h.more hb1
  have hKd : IsAtK lo a b N (knew w w1) w1.drew := hK1.keep ((Below.refl _ _).drew)
  obtain ⟨M, cn, hcn, c8, hlk⟩ : ∃ M cn, (cn = 0 ↔ b.fs.all (notNamed nm) = true) ∧ w1.drew.cell? ⟨a, 8, none⟩ = some (.map (some M)) ∧ (Instr.lookup 163 (.map (some M)) (.string nm) false).run Tryz.prog w1.drew = .ok (.int .i64 (cn : Nat)) w1.drew := by
    obtain ⟨P, Q, s, rfl, rfl, _, _, h5, _⟩ := hKd
    exact ⟨s.M, cntF s.fs nm.data.toList, cnt_all _ _ _ _, cell_at h5.blk 8, h5.cnt.look nm (by unfold maxLen; omega)⟩
  have x1 : w1.drew.cell? ⟨w.heap.size, 1, none⟩ = some (.string nm) := cell_at hbx 1
  have hbd : Below lo w w1.drew := (hb1.mono hlo).drew
  rcases Nat.eq_zero_or_pos cn with h0 | h0
  · have hE : endB b nm = b := by unfold endB; rw [if_pos (hcn.1 h0)]
    have HE := Lib.hid (show Did lo a (endB b nm) N w (.returned (.tuple #[])) w1.drew from ⟨⟨_, rfl⟩, by rw [hE]; exact hKd.forget, hbd⟩)
    subst h0
    clear hb1 hs1 hbx hK1 hKd hcn hE hbd h
    go_enter Tryz.func181, Tryz.ntmps181
    go_upto_region 1 with fail
    go_region
    all_goals go_wp2_with fail
    all_goals go_end0
    all_goals exact HE.out
  · have hna : ¬ b.fs.all (notNamed nm) = true := fun e => by have := hcn.2 e; omega
    obtain ⟨j, hj⟩ : ∃ j, (b.fs.takeWhile (notNamed nm)).length = j := ⟨_, rfl⟩
    have hE : endB b nm = popN (j + 1) b := by unfold endB; rw [if_neg hna, hj]
    have hjl : j < b.fs.length := by
      have h1 := tw_leB (notNamed nm) b.fs
      rcases Nat.lt_or_ge j b.fs.length with h2 | h2
      · exact h2
      · exact absurd (tw_allB (notNamed nm) b.fs (by omega)) hna
    have hlt : ∀ i f, i < j → b.fs[i]? = some f → f.name ≠ nm := fun i f hi hf e => by
      have := tw_lt (notNamed nm) b.fs i f (by omega) hf
      unfold notNamed at this
      rw [e] at this
      simp at this
    have hat : ∀ f, b.fs[j]? = some f → f.name = nm := fun f hf => by
      have := tw_at (notNamed nm) b.fs f (by rw [hj]; exact hf)
      unfold notNamed at this
      simpa using this
    have B : ((cn : Int) == 0) = false := by simp; omega
    have HE := Lib.hid hE
    have HT := Lib.hid (And.intro hjl (And.intro hlt hat))
    have H0 := Lib.hid (show EndAt lo a b N j w w1 w1.drew from ⟨⟨0, Nat.zero_le _, hKd⟩, rfl, hbd⟩)
    have HX := Lib.hid (And.intro hbx hs1)
    clear hb1 hbx hK1 hKd hcn hE hbd h hna hj hjl hlt hat hs1
    go_enter Tryz.func181, Tryz.ntmps181
    go_upto_region 1 with fail
    go_cut [11] (fun x wx => x = .bool false ∧ wx = w1.drew)
    case first =>
      go_region
      all_goals go_wp2_with fail
      all_goals go_meet
      all_goals exact ⟨rfl, rfl⟩
    case rest =>
      obtain ⟨rfl, rfl⟩ := hcut
      clear c8 hlk x1
      go_wp2_with fail
      go_loopw [] (fun wr => EndAt lo a b N j w w1 wr) (fun wr => opLen a wr)
      case atStart => exact H0.out
      case round =>
        obtain ⟨⟨i, hi, hI⟩, hbox, hbel⟩ := hrel
        have hol := hI.opLen
        obtain ⟨f, hf⟩ : ∃ f, b.fs[i]? = some f := ⟨_, List.getElem?_eq_getElem (by have := HT.out.1; omega)⟩
        obtain ⟨fr, rest, hfr, hfn⟩ := popN_at hf
        have hbz : szB (popN i b) ≤ 100000000 := Nat.le_trans (popN_sz i b) hz
        have hkb : ∀ k, knew w w1 k → k < wr.heap.size := fun k hk => by
          rcases hk with hk | hk
          · exact hk.elim
          · have := HX.out.2
            have h1 := hk.1
            have h2 := hk.2
            obtain rfl : k = w.heap.size := by omega
            have h3 := hbox.trans HX.out.1
            exact (Array.getElem?_eq_some_iff.1 h3).1
        have hwl : lo ≤ wr.heap.size := Nat.le_trans hlo hbel.size
        have hsh := shut_any (hI.keep ((Below.refl _ _).drew)) hfr hbz hN hwl hkb
        have hkx : knew w w1 w.heap.size := .inr ⟨Nat.le_refl _, by have := HX.out.2; omega⟩
        have y1 : wr.drew.cell? ⟨w.heap.size, 1, none⟩ = some (.string nm) := cell_at (hbox.trans HX.out.1) 1
        have HS := Lib.hid hsh
        have hlen : (popN i b).fs.length = rest.length + 1 := by rw [hfr]; rfl
        have hpl : (popB (popN i b)).fs.length < (popN i b).fs.length := by rw [pop_length]; omega
        have HR := Lib.hid (fun w3 (h3 : IsAtK lo a (popB (popN i b)) N (knew w w1) w3) (hk3 : ∀ k, knew w w1 k → w3.heap[k]? = wr.drew.heap[k]?) (hb3 : Below lo wr.drew w3) => (⟨(hk3 _ hkx).trans hbox, (hbel.drew).trans hb3, by rw [h3.opLen, hol]; exact hpl, by rw [popN_succ]; exact h3⟩ :
          w3.heap[w.heap.size]? = w1.heap[w.heap.size]? ∧ Below lo w w3 ∧ opLen a w3 < opLen a wr ∧ IsAtK lo a (popN (i + 1) b) N (knew w w1) w3))
        rcases Nat.lt_or_ge i j with hij | hij
        · have hne : fr.name ≠ nm := by rw [hfn]; exact HT.out.2.1 i f hij hf
          have B2 : (fr.name.toList == nm.toList) = false := by
            rw [beq_eq_false_iff_ne]
            intro e
            exact hne (ba_toList.1 e)
          clear hI hbox hbel hol hf hfr hfn hbz hkb hwl hsh hkx hlen hpl hne
          go_upto_region 2 with fail
          go_region_with (first
            | (go_at_call 187; refine HS.out.mono ?_; rintro e w3 ⟨rfl, h3, hk3, hat3, hb3⟩; have y2 : w3.cell? ⟨w.heap.size, 1, none⟩ = some (.string nm) := cell_at ((HR.out w3 h3 hk3 hb3).1.trans HX.out.1) 1))
          all_goals go_wp2_with fail
          all_goals
            go_roundw
            case rel => exact ⟨_, _, _, _, _, ⟨⟨i + 1, by omega, (HR.out w3 h3 hk3 hb3).2.2.2⟩, (HR.out w3 h3 hk3 hb3).1, (HR.out w3 h3 hk3 hb3).2.1⟩, rfl⟩
            case measure => exact (HR.out w3 h3 hk3 hb3).2.2.1
        · obtain rfl : i = j := by omega
          have hne : fr.name = nm := by rw [hfn]; exact HT.out.2.2 f hf
          have B2 : (fr.name.toList == nm.toList) = true := by rw [hne]; exact beq_self_eq_true _
          clear hI hbox hbel hol hf hfr hfn hbz hkb hwl hsh hkx hlen hpl hne
          go_upto_region 2 with fail
          go_region_with (first
            | (go_at_call 187; refine HS.out.mono ?_; rintro e w3 ⟨rfl, h3, hk3, hat3, hb3⟩; have y2 : w3.cell? ⟨w.heap.size, 1, none⟩ = some (.string nm) := cell_at ((HR.out w3 h3 hk3 hb3).1.trans HX.out.1) 1))
          all_goals go_wp2_with fail
          all_goals go_end0
          all_goals exact ⟨⟨_, rfl⟩, by rw [HE.out]; exact (HR.out w3 h3 hk3 hb3).2.2.2.forget, (HR.out w3 h3 hk3 hb3).2.1⟩

end Go.Proofs.YthmnnalamaponaaGreat
