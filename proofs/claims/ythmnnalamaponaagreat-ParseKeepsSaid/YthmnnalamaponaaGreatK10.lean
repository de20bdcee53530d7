/- Parts of the proof, in build order: StdR StdS Good6 MayM MayR MayO. -/
import Derived.Test.YthmnnalamaponaaGreatK04
import Derived.Test.YthmnnalamaponaaGreatK07
import Derived.Test.YthmnnalamaponaaGreatK08
import Derived.Test.YthmnnalamaponaaGreatK09
import Derived.Deep.RegionHeld3
import Derived.Deep.RegionWith
import Derived.Deep.DeepCutAuto
import Derived.Test.YthmnnalamaponaaGreatK03
import Derived.Test.YthmnnalamaponaaGreatK06
import Derived.Deep.QuietTactic
import Derived.BigQuiet
import Derived.StillTailTactics

/- Part StdR. -/
namespace Go.Proofs.YthmnnalamaponaaGreat
open Go.RowKit
set_option linter.unusedVariables false

structure FtAt (P : Nat → Prop) (w wr : World) (p : List UInt8) (l : List Nd) (k : Nat) (v : Value) : Prop where
  le : k ≤ l.length
  own : OwnK wr w.heap.size P ((l.take k).filter (fitsB p)) v
  bel : Below w.heap.size w wr
def FtRel (P : Nat → Prop) (w : World) (p : List UInt8) (l : List Nd) (x y : Value) (wr : World) : Prop := ∃ k : Nat, y = .int .i64 k ∧ FtAt P w wr p l k x

theorem filter_snoc {q : Nd → Bool} {l : List Nd} {k : Nat} {n : Nd} (h : l[k]? = some n) : (l.take (k + 1)).filter q = (l.take k).filter q ++ (if q n = true then [n] else []) := by
  rw [List.take_add_one, h, List.filter_append]
  simp only [Option.toList_some, List.filter_cons, List.filter_nil]
theorem filter_len (q : Nd → Bool) (l : List Nd) (k : Nat) : ((l.take k).filter q).length ≤ l.length := Nat.le_trans (List.length_filter_le _ _) (by rw [List.length_take]; omega)

set_option maxHeartbeats 2000000 in
set_option maxRecDepth 100000 in
theorem fittingR_any (P : Nat → Prop) (p : ByteArray) (l : List Nd) (v : Value) (w : World) (hT : Tree (fun b => P b ∧ b < w.heap.size) w l v) (hsz : szL l ≤ 100000) (hp : p.size ≤ 100000) :
    Calls Tryz.prog 35 #[.string p, v] w fun e w' => ∃ v', e = .returned v' ∧ OwnK w' w.heap.size P (l.filter (fitsB p.data.toList)) v' ∧ Below w.heap.size w w' := by
  have hlen := szL_len l
  obtain ⟨A, c, rfl, hc⟩ := hT.shape
  have HT := Lib.hid hT
  clear hT
  go_enter Tryz.func35, Tryz.ntmps35
  go_wp2_with fail
  go_loopw [5, 6, 7] (fun x y _ wr => FtRel P w p.data.toList l x y wr) (fun _ y _ _ => l.length - (intOf y).toNat)
  case atStart => exact ⟨0, rfl, by omega, OwnK.nil _ _ _, Below.refl _ _⟩
  case round =>
    obtain ⟨k, rfl, HR⟩ := hrel
    have hk := HR.le
    have hbr := HR.bel
    have HO := Lib.hid HR.own
    clear HR
    by_cases hlt : k < l.length
    · obtain ⟨b, o, c', hv, _, hS, hcell⟩ := HT.out.open_ (by omega)
      injection hv with hA _ hcc
      subst hA
      subst hcc
      obtain ⟨n, hn⟩ : ∃ n, l[k]? = some n := ⟨_, List.getElem?_eq_getElem hlt⟩
      obtain ⟨va, vk, hat⟩ := hcell k n hn
      have hzn := szL_at hn
      rw [szN_eq] at hzn
      obtain ⟨A3, c3, rfl, _, _⟩ := id hat.at_
      obtain ⟨A4, c4, rfl, _⟩ := hat.kids.shape
      have hb := hS.2
      have q0 : wr.cell? ⟨b, o + k * 5, none⟩ = some (.int .i64 n.kind) := (hbr.cell (p := ⟨b, o + k * 5, none⟩) hb).trans hat.c0
      have q1 : wr.cell? ⟨b, o + k * 5 + 1, none⟩ = some (.string n.name) := (hbr.cell (p := ⟨b, o + k * 5 + 1, none⟩) hb).trans hat.c1
      have q2 : wr.cell? ⟨b, o + k * 5 + 2, none⟩ = some (.slice A3 n.attrs.length c3) := (hbr.cell (p := ⟨b, o + k * 5 + 2, none⟩) hb).trans hat.c2
      have q3 : wr.cell? ⟨b, o + k * 5 + 3, none⟩ = some (.string n.text) := (hbr.cell (p := ⟨b, o + k * 5 + 3, none⟩) hb).trans hat.c3
      have q4 : wr.cell? ⟨b, o + k * 5 + 4, none⟩ = some (.slice A4 n.kids.length c4) := (hbr.cell (p := ⟨b, o + k * 5 + 4, none⟩) hb).trans hat.c4
      have i1 : (k : Int) < (l.length : Int) := by omega
      have i2 : (0 : Int) ≤ (k : Int) := by omega
      have HFT := Lib.hid (fitsR_any p n (.slice A3 n.attrs.length c3) (.slice A4 n.kids.length c4) wr ⟨_, _, rfl⟩ ⟨_, _, rfl⟩ hp (by omega))
      obtain ⟨ft, hft⟩ : ∃ q, fitsB p.data.toList n = q := ⟨_, rfl⟩
      rw [hft] at HFT
      have HFS := Lib.hid (show (l.take (k + 1)).filter (fitsB p.data.toList) = (l.take k).filter (fitsB p.data.toList) ++ (if ft = true then [n] else []) by rw [filter_snoc hn, hft])
      have HAT := Lib.hid hat
      have hfl := filter_len (fitsB p.data.toList) l k
      obtain ⟨out, hout⟩ : ∃ out, (l.take k).filter (fitsB p.data.toList) = out := ⟨_, rfl⟩
      rw [hout] at HO HFS hfl
      clear hcell hn hat hft hout
      go_wp2_with fail
      refine HFT.out.mono ?_
      rintro e w3 ⟨rfl, hb3⟩
      have hB3 := below_after hbr hb3
      have hown3 := HO.out.later hb3
      cases ft with
      | false =>
        have HOW := Lib.hid hown3
        clear q0 q1 q2 q3 q4 hown3
        go_wp2_with fail
        go_roundw
        case rel => exact ⟨k + 1, by go_num, by omega, by rw [HFS.out]; simpa using HOW.out, hB3⟩
        case measure => simp [intOf]; omega
      | true =>
        have hbl : b < wr.heap.size := Nat.lt_of_lt_of_le hb hbr.size
        have s0 : w3.cell? ⟨b, o + k * 5, none⟩ = some (.int .i64 n.kind) := (hb3.cell (p := ⟨b, o + k * 5, none⟩) hbl).trans q0
        have s1 : w3.cell? ⟨b, o + k * 5 + 1, none⟩ = some (.string n.name) := (hb3.cell (p := ⟨b, o + k * 5 + 1, none⟩) hbl).trans q1
        have s2 : w3.cell? ⟨b, o + k * 5 + 2, none⟩ = some (.slice A3 n.attrs.length c3) := (hb3.cell (p := ⟨b, o + k * 5 + 2, none⟩) hbl).trans q2
        have s3 : w3.cell? ⟨b, o + k * 5 + 3, none⟩ = some (.string n.text) := (hb3.cell (p := ⟨b, o + k * 5 + 3, none⟩) hbl).trans q3
        have s4 : w3.cell? ⟨b, o + k * 5 + 4, none⟩ = some (.slice A4 n.kids.length c4) := (hb3.cell (p := ⟨b, o + k * 5 + 4, none⟩) hbl).trans q4
        have HKP := Lib.hid (fun ob => input_keptK hB3 hown3 ob)
        have HOWN := Lib.hid (fun ob => OwnK.later hown3 (below_new w3 ob))
        have HOW := Lib.hid hown3
        have hwr : w.heap.size ≤ w3.heap.size + 1 := by have := hB3.size; omega
        clear q0 q1 q2 q3 q4 hown3
        go_wp2_with (at_builtin; refine wpList_append_nodeK rfl _ _ rfl w.heap.size P out _ rfl (HOWN.out _) ⟨n, .slice A3 n.attrs.length c3, .slice A4 n.kids.length c4⟩ ⟨w3.heap.size, 0, none⟩ 1 rfl (new_five _ _ _) ((HAT.out.at_.keep (HKP.out _).1).mono (HKP.out _).2) ((HAT.out.kids.keep (HKP.out _).1).mono (HKP.out _).2) (by omega) (by simpa using hwr) ?_; intro v' w2 hown' hgrow)
        have hB2 : Below w.heap.size w w2 := (hB3.alloc hB3.size _).grown hgrow (by simpa using hwr) (fun g hg => (OwnT.lt HOW.out g hg).1)
        clear hgrow
        go_roundw
        case rel => exact ⟨k + 1, by go_num, by omega, by rw [HFS.out]; exact hown', hB2⟩
        case measure => simp [intOf]; omega
    · have hke : k = l.length := by omega
      have HOW := Lib.hid (show OwnK wr w.heap.size P (l.filter (fitsB p.data.toList)) _ by have := HO.out; rwa [hke, List.take_length] at this)
      go_wp2_with fail
      go_ret
      exact ⟨_, rfl, HOW.out, hbr⟩

end Go.Proofs.YthmnnalamaponaaGreat

/- Part StdS. -/
namespace Go.Proofs.YthmnnalamaponaaGreat
open Go.RowKit
set_option linter.unusedVariables false
set_option linter.unusedSimpArgs false

/-- A box with n's cells, and other kids; what lies below it stays. -/
structure KdEnd (P : Nat → Prop) (nb : Nat) (n : Nd) (va : Value) (ks : List Nd) (wr wx : World) : Prop where
  c0 : wx.cell? ⟨nb, 0, none⟩ = some (.int .i64 n.kind)
  c1 : wx.cell? ⟨nb, 1, none⟩ = some (.string n.name)
  c2 : wx.cell? ⟨nb, 2, none⟩ = some va
  c3 : wx.cell? ⟨nb, 3, none⟩ = some (.string n.text)
  ex : ∃ A c, wx.cell? ⟨nb, 4, none⟩ = some (.slice A ks.length c) ∧ Tree (fun b => P b ∧ b < wx.heap.size) wx ks (.slice A ks.length c)
  bel : Below nb wr wx
  lt : nb < wx.heap.size
/-- The box, behind calls that only make new blocks. -/
def BoxIn (nb : Nat) (n : Nd) (va vk : Value) (W : World) : Prop :=
  W.cell? ⟨nb, 0, none⟩ = some (.int .i64 n.kind) ∧ W.cell? ⟨nb, 1, none⟩ = some (.string n.name) ∧ W.cell? ⟨nb, 2, none⟩ = some va ∧ W.cell? ⟨nb, 3, none⟩ = some (.string n.text) ∧ W.cell? ⟨nb, 4, none⟩ = some vk ∧ W.frozen? ⟨nb, 4, none⟩ = false
theorem BoxIn.keep {nb : Nat} {n : Nd} {va vk : Value} {W W' : World} (h : BoxIn nb n va vk W) (hn : nb < W.heap.size) (hb : Below W.heap.size W W') : BoxIn nb n va vk W' :=
  ⟨(hb.cell (p := ⟨nb, 0, none⟩) hn).trans h.1, (hb.cell (p := ⟨nb, 1, none⟩) hn).trans h.2.1, (hb.cell (p := ⟨nb, 2, none⟩) hn).trans h.2.2.1, (hb.cell (p := ⟨nb, 3, none⟩) hn).trans h.2.2.2.1, (hb.cell (p := ⟨nb, 4, none⟩) hn).trans h.2.2.2.2.1, (hb.frozen (p := ⟨nb, 4, none⟩) hn).trans h.2.2.2.2.2⟩
theorem kdEnd_of {P : Nat → Prop} {nb : Nat} {n : Nd} {va vk : Value} {ks : List Nd} {wr w1 W : World} {A : Option Addr} {c : Nat} (hP : ¬ P nb) (hw1 : Below nb wr w1) (hn : nb < w1.heap.size) (hbox : BoxIn nb n va vk w1) (hB : Below w1.heap.size w1 W)
    (hT : Tree (fun b => P b ∧ b < W.heap.size) W ks (.slice A ks.length c)) : KdEnd P nb n va ks wr (W.setCell ⟨nb, 4, none⟩ (.slice A ks.length c)) := by
  obtain ⟨b0, b1, b2, b3, b4, b5⟩ := hbox.keep hn hB
  have hsz : (W.setCell ⟨nb, 4, none⟩ (.slice A ks.length c)).heap.size = W.heap.size := by simp
  refine ⟨?_, ?_, ?_, ?_, ⟨A, c, ?_, ?_⟩, ?_, ?_⟩
  · rw [World.cell?_setCell_other _ _ _ _ (by simp)]; exact b0
  · rw [World.cell?_setCell_other _ _ _ _ (by simp)]; exact b1
  · rw [World.cell?_setCell_other _ _ _ _ (by simp)]; exact b2
  · rw [World.cell?_setCell_other _ _ _ _ (by simp)]; exact b3
  · exact World.cell?_setCell_same _ _ _ b4
  · rw [hsz]
    refine hT.keep fun b hb j => ?_
    refine World.cell?_setCell_other _ _ _ _ ?_
    intro e
    injection e with e
    subst e
    exact hP hb.1
  · exact (hw1.trans (hB.mono (Nat.le_of_lt hn))).setCell (p := ⟨nb, 4, none⟩) (Nat.le_refl _) _
  · rw [hsz]
    exact Nat.lt_of_lt_of_le hn hB.size

structure SdAt (P : Nat → Prop) (w wr : World) (l : List Nd) (k : Nat) (v : Value) : Prop where
  le : k ≤ l.length
  own : OwnK wr w.heap.size P (stdT (l.take k)) v
  bel : Below w.heap.size w wr
def SdRel (P : Nat → Prop) (w : World) (l : List Nd) (x y : Value) (wr : World) : Prop := ∃ k : Nat, y = .int .i64 k ∧ SdAt P w wr l k x
theorem std_snoc {l : List Nd} {k : Nat} {n : Nd} (h : l[k]? = some n) : stdT (l.take (k + 1)) = stdT (l.take k) ++ (if okC n = true then [stdN n] else []) := by
  unfold stdT
  rw [filter_snoc h, List.map_append]
  cases okC n <;> rfl
theorem std_len (l : List Nd) (k : Nat) : (stdT (l.take k)).length ≤ l.length := by unfold stdT; rw [List.length_map]; exact filter_len _ _ _
theorem std_sz (l : List Nd) : szL (stdT l) ≤ szL l := by
  unfold stdT
  refine Nat.le_trans ?_ (szL_filter okC l)
  generalize l.filter okC = m
  induction m with
  | nil => simp
  | cons x m ihm =>
    rw [List.map_cons, szL_cons, szL_cons]
    have hx : szN (stdN x) ≤ szN x := by
      by_cases h1 : x.kind = 1
      · rw [stdN_elem h1, szN_mk, szN_eq x]
        have h2 := szL_filter (fitsB x.name.data.toList) x.kids
        have h3 := steady_sz (x.kids.filter (fitsB x.name.data.toList))
        have h4 := szL_filter (fitsB x.name.data.toList) (steadyB (x.kids.filter (fitsB x.name.data.toList)))
        omega
      · rw [stdN_other h1]
        exact Nat.le_refl _
    omega

theorem fitR_tree (P : Nat → Prop) (w1 : World) (p : ByteArray) (l : List Nd) (v : Value) (W : World) (hP : ∀ b, w1.heap.size ≤ b → P b) (hT : Tree (fun b => P b ∧ b < W.heap.size) W l v) (hsz : szL l ≤ 100000) (hp : p.size ≤ 100000) (hW : Below w1.heap.size w1 W) :
    Calls Tryz.prog 35 #[.string p, v] W fun e w' => ∃ A c, e = .returned (.slice A (l.filter (fitsB p.data.toList)).length c) ∧ Tree (fun b => P b ∧ b < w'.heap.size) w' (l.filter (fitsB p.data.toList)) (.slice A (l.filter (fitsB p.data.toList)).length c) ∧ Below w1.heap.size w1 w' := by
  refine (fittingR_any P p l v W hT hsz hp).mono ?_
  rintro e w' ⟨v', rfl, ho, hb⟩
  have ht := OwnK.tree ho fun b h => hP b (Nat.le_trans hW.size h)
  obtain ⟨A, c, rfl, _⟩ := ht.shape
  exact ⟨A, c, rfl, ht, below_after hW hb⟩
theorem std_tree (P : Nat → Prop) (w1 : World) (l : List Nd) (v : Value) (W : World)
    (h : Calls Tryz.prog 20 #[v] W fun e w' => ∃ v', e = .returned v' ∧ Tree (fun b => P b ∧ b < w'.heap.size) w' (steadyB l) v' ∧ Below W.heap.size W w') (hW : Below w1.heap.size w1 W) :
    Calls Tryz.prog 20 #[v] W fun e w' => ∃ v', e = .returned v' ∧ Tree (fun b => P b ∧ b < w'.heap.size) w' (steadyB l) v' ∧ Below w1.heap.size w1 w' := by
  refine h.mono ?_
  rintro e w' ⟨v', rfl, ht, hb⟩
  exact ⟨v', rfl, ht, below_after hW hb⟩

set_option maxHeartbeats 4000000 in
set_option maxRecDepth 100000 in
theorem steadyR_any : ∀ (l : List Nd) (P : Nat → Prop) (v : Value) (w : World), (∀ b, w.heap.size ≤ b → P b) → Tree (fun b => P b ∧ b < w.heap.size) w l v → szL l ≤ 100000 →
    Calls Tryz.prog 20 #[v] w fun e w' => ∃ v', e = .returned v' ∧ Tree (fun b => P b ∧ b < w'.heap.size) w' (steadyB l) v' ∧ Below w.heap.size w w' := by
  refine sz_ind fun l ih => ?_
  intro P v w hP hT hsz
  have hlen := szL_len l
  obtain ⟨A, c, rfl, hc⟩ := hT.shape
  have HT := Lib.hid hT
  have HP := Lib.hid hP
  have HIH := Lib.hid ih
  clear hT hP ih
  go_enter Tryz.func20, Tryz.ntmps20
  go_wp2_with fail
  go_loopw [3, 4, 5] (fun x y _ wr => SdRel P w l x y wr) (fun _ y _ _ => l.length - (intOf y).toNat)
  case atStart => exact ⟨0, rfl, by omega, OwnK.nil _ _ _, Below.refl _ _⟩
  case round =>
    obtain ⟨k, rfl, HR⟩ := hrel
    have hk := HR.le
    have hbr := HR.bel
    have HO := Lib.hid HR.own
    clear HR
    by_cases hlt : k < l.length
    · obtain ⟨b, o, c', hv, _, hS, hcell⟩ := HT.out.open_ (by omega)
      injection hv with hA _ hcc
      subst hA
      subst hcc
      obtain ⟨n, hn⟩ : ∃ n, l[k]? = some n := ⟨_, List.getElem?_eq_getElem hlt⟩
      obtain ⟨va, vk, hat⟩ := hcell k n hn
      have hzn := szL_at hn
      rw [szN_eq] at hzn
      obtain ⟨A3, c3, rfl, _, _⟩ := id hat.at_
      obtain ⟨A4, c4, rfl, _⟩ := hat.kids.shape
      have hb := hS.2
      have q0 : wr.cell? ⟨b, o + k * 5, none⟩ = some (.int .i64 n.kind) := (hbr.cell (p := ⟨b, o + k * 5, none⟩) hb).trans hat.c0
      have q1 : wr.cell? ⟨b, o + k * 5 + 1, none⟩ = some (.string n.name) := (hbr.cell (p := ⟨b, o + k * 5 + 1, none⟩) hb).trans hat.c1
      have q2 : wr.cell? ⟨b, o + k * 5 + 2, none⟩ = some (.slice A3 n.attrs.length c3) := (hbr.cell (p := ⟨b, o + k * 5 + 2, none⟩) hb).trans hat.c2
      have q3 : wr.cell? ⟨b, o + k * 5 + 3, none⟩ = some (.string n.text) := (hbr.cell (p := ⟨b, o + k * 5 + 3, none⟩) hb).trans hat.c3
      have q4 : wr.cell? ⟨b, o + k * 5 + 4, none⟩ = some (.slice A4 n.kids.length c4) := (hbr.cell (p := ⟨b, o + k * 5 + 4, none⟩) hb).trans hat.c4
      have i1 : (k : Int) < (l.length : Int) := by omega
      have i2 : (0 : Int) ≤ (k : Int) := by omega
      have hk4 : k + 1 ≤ l.length := hlt
      have HHS := Lib.hid (fun W => hasR_any n.text W (by omega))
      have HFS := Lib.hid (std_snoc hn)
      have HAT := Lib.hid hat
      have hfl := std_len l k
      obtain ⟨out, hout⟩ : ∃ out, stdT (l.take k) = out := ⟨_, rfl⟩
      rw [hout] at HO HFS hfl
      have HOKC := Lib.hid (show okC n = (!decide (n.kind = 3) || noEnd n.text.data.toList) from rfl)
      obtain ⟨ne, hne⟩ : ∃ q, noEnd n.text.data.toList = q := ⟨_, rfl⟩
      rw [hne] at HOKC HHS
      clear hcell hn hat hout hne
      have hways : (n.kind = 3 ∧ ne = false) ∨ (n.kind = 3 ∧ ne = true) ∨ n.kind = 1 ∨ (n.kind ≠ 3 ∧ n.kind ≠ 1) := by
        by_cases h : n.kind = 3
        · cases ne
          · exact .inl ⟨h, rfl⟩
          · exact .inr (.inl ⟨h, rfl⟩)
        · by_cases h1 : n.kind = 1
          · exact .inr (.inr (.inl h1))
          · exact .inr (.inr (.inr ⟨h, h1⟩))
      have hwsz : w.heap.size ≤ wr.heap.size := hbr.size
      go_upto_region 6 with fail
      obtain ⟨w1, hw1⟩ : ∃ w1, wr.alloc (.cells #[.int .i64 n.kind, .string n.name, .slice A3 n.attrs.length c3, .string n.text, .slice A4 n.kids.length c4] 35) = w1 := ⟨_, rfl⟩
      have hz1 : w1.heap.size = wr.heap.size + 1 := by rw [← hw1]; simp
      have hb1 : Below wr.heap.size wr w1 := by rw [← hw1]; exact (Below.refl _ _).alloc (Nat.le_refl _) _
      have hbox : BoxIn wr.heap.size n (.slice A3 n.attrs.length c3) (.slice A4 n.kids.length c4) w1 := by
        rw [← hw1]
        exact ⟨by simp, by simp, by simp, by simp, by simp, by simp⟩
      rw [hw1]
      have HBX := Lib.hid hbox
      obtain ⟨e0, e1, e2, e3, e4, e5⟩ := id hbox
      have HOW := Lib.hid (HO.out.later (hb1.mono (Nat.le_refl _)))
      have hB1 := below_after hbr hb1
      clear hw1 hbox q0 q1 q2 q3 q4
      rcases hways with ⟨h3, rfl⟩ | hgo
      · have B3 : (n.kind == 3) = true := by simp [h3]
        have HF := Lib.hid (show okC n = false by rw [HOKC.out, h3]; rfl)
        clear h3
        go_wp2_with fail
        refine (HHS.out _).mono ?_
        rintro e w3 ⟨rfl, rfl⟩
        go_wp2_with fail
        go_roundw
        case rel => exact ⟨k + 1, by go_num, hk4, by rw [HFS.out, HF.out]; simpa using HOW.out, hB1⟩
        case measure => simp [intOf]; omega
      · have HG := Lib.hid (show okC n = true by rw [HOKC.out]; rcases hgo with ⟨h, rfl⟩ | h | ⟨h, _⟩; (rw [h]; rfl); (rw [h]; rfl); (simp [h]))
        by_cases h1 : n.kind = 1
        · have B3 : (n.kind == 3) = false := by simp [h1]
          have B1 : (n.kind == 1) = true := by simp [h1]
          have HST := Lib.hid (stdN_elem h1)
          clear h1 hgo
          obtain ⟨P2, hP2⟩ : ∃ P2 : Nat → Prop, (fun b => (P b ∧ b < w.heap.size) ∨ wr.heap.size + 1 ≤ b) = P2 := ⟨_, rfl⟩
          have HPN := Lib.hid (show ¬ P2 wr.heap.size by rw [← hP2]; intro h; rcases h with h | h <;> omega)
          have HPL := Lib.hid (show ∀ b, P b ∧ b < w.heap.size → P2 b by intro b h; rw [← hP2]; exact .inl h)
          have HPH := Lib.hid (show ∀ b, wr.heap.size + 1 ≤ b → P2 b by intro b h; rw [← hP2]; exact .inr h)
          have HPB := Lib.hid (show ∀ b, P2 b → P b ∧ (b < w.heap.size ∨ wr.heap.size + 1 ≤ b) by
            intro b h
            rw [← hP2] at h
            rcases h with h | h
            · exact ⟨h.1, .inl h.2⟩
            · exact ⟨HP.out b (by omega), .inr h⟩)
          clear hP2
          have hkz : szL (n.kids.filter (fitsB n.name.data.toList)) ≤ szL n.kids := szL_filter _ _
          have hkz2 : szL (steadyB (n.kids.filter (fitsB n.name.data.toList))) ≤ szL n.kids := Nat.le_trans (steady_sz _) hkz
          have HF1 := Lib.hid (fun (W : World) (hW : Below w1.heap.size w1 W) => fitR_tree P2 w1 n.name n.kids (.slice A4 n.kids.length c4) W (fun b h => HPH.out b (by omega))
            (((HAT.out.kids.keep (Kept.belowB hB1 fun b h => h.2)).mono (fun b h => (⟨HPL.out b h, Nat.lt_of_lt_of_le h.2 hB1.size⟩ : P2 b ∧ b < w1.heap.size))).keep (Kept.belowB hW fun b h => h.2) |>.mono (fun b h => (⟨h.1, Nat.lt_of_lt_of_le h.2 hW.size⟩ : P2 b ∧ b < W.heap.size))) (by omega) (by omega) hW)
          have HS := Lib.hid (fun (W : World) (v : Value) (hT : Tree (fun b => P2 b ∧ b < W.heap.size) W (n.kids.filter (fitsB n.name.data.toList)) v) (hW : Below w1.heap.size w1 W) =>
            std_tree P2 w1 (n.kids.filter (fitsB n.name.data.toList)) v W (HIH.out _ (by omega) P2 v W (fun b h => HPH.out b (by have := hW.size; omega)) hT (by omega)) hW)
          have HF2 := Lib.hid (fun (W : World) (v : Value) (hT : Tree (fun b => P2 b ∧ b < W.heap.size) W (steadyB (n.kids.filter (fitsB n.name.data.toList))) v) (hW : Below w1.heap.size w1 W) =>
            fitR_tree P2 w1 n.name (steadyB (n.kids.filter (fitsB n.name.data.toList))) v W (fun b h => HPH.out b (by omega)) hT (by omega) (by omega) hW)
          have HMK := Lib.hid (fun (W : World) (hW : Below w1.heap.size w1 W) => BoxIn.keep HBX.out (by omega : wr.heap.size < w1.heap.size) hW)
          have hdr : Below w1.heap.size w1 w1.drew := (Below.refl _ _).drew
          have hn1 : wr.heap.size < w1.heap.size := by omega
          obtain ⟨ks, hks⟩ : ∃ ks, (steadyB (n.kids.filter (fitsB n.name.data.toList))).filter (fitsB n.name.data.toList) = ks := ⟨_, rfl⟩
          rw [hks] at HF2 HST
          clear hz1 hkz hkz2 hks
          go_upto_region 8 with fail
          go_cut [] (fun wx => KdEnd P2 wr.heap.size n (.slice A3 n.attrs.length c3) ks wr wx)
          case first =>
            go_region_with (first
              | (go_at_call 35; refine (HF2.out _ _ ht2 hbb).mono ?_; rintro e wc ⟨A7, c7, rfl, ht3, hbc⟩; obtain ⟨_, y1, _, _, y4, yf⟩ := HMK.out wc hbc)
              | (go_at_call 20; refine (HS.out _ _ ht1 hba).mono ?_; rintro e wb ⟨v2, rfl, ht2, hbb⟩; obtain ⟨_, y1, _, _, y4, yf⟩ := HMK.out wb hbb)
              | (go_at_call 35; refine (HF1.out _ hdr).mono ?_; rintro e wa ⟨A6, c6, rfl, ht1, hba⟩; obtain ⟨_, y1, _, _, y4, yf⟩ := HMK.out wa hba))
            all_goals go_wp2_with fail
            all_goals go_meet
            all_goals exact kdEnd_of HPN.out hb1 hn1 HBX.out hbc ht3
          case rest =>
            obtain ⟨r0, r1, r2, r3, ⟨A7, c7, r4, ht⟩, hbx, hlx⟩ := hcut
            have HOX := Lib.hid (HO.out.later hbx)
            have hBx := below_after hbr hbx
            have HKP := Lib.hid (fun ob => input_keptK hBx HOX.out ob)
            have HOWN := Lib.hid (fun ob => OwnK.later HOX.out (below_new wc ob))
            have HKT := Lib.hid (fun (ob : Obj) => (ht.keep (Kept.belowB (below_new wc ob) fun b h => h.2)).mono (fun b h => (show SubK P (wc.alloc ob) u3 b by
              have hb := HPB.out b h.1
              refine ⟨hb.1, by simp; omega, fun e => ?_⟩
              have := OwnT.lt HO.out b e
              rcases hb.2 with h2 | h2 <;> omega)))
            have hwr : w.heap.size ≤ wc.heap.size + 1 := by have := hBx.size; omega
            clear ht
            go_wp2_with (at_builtin; refine wpList_append_nodeK rfl _ _ rfl w.heap.size P out _ rfl (HOWN.out _) ⟨.mk n.kind n.name n.attrs n.text ks, .slice A3 n.attrs.length c3, .slice A7 ks.length c7⟩ ⟨wc.heap.size, 0, none⟩ 1 rfl (new_five _ _ _) ((HAT.out.at_.keep (HKP.out _).1).mono (HKP.out _).2) (HKT.out _) (by omega) (by simpa using hwr) ?_; intro v' w2 hown' hgrow)
            have hB2 : Below w.heap.size w w2 := (hBx.alloc hBx.size _).grown hgrow (by simpa using hwr) (fun g hg => (OwnT.lt HOX.out g hg).1)
            clear hgrow
            go_roundw
            case rel => exact ⟨k + 1, by go_num, hk4, by rw [HFS.out, HG.out, if_pos rfl, HST.out]; exact hown', hB2⟩
            case measure => simp [intOf]; omega
        have HST := Lib.hid (show stdN n = n from stdN_other h1)
        have B1 : (n.kind == 1) = false := by simp [h1]
        have hgo' : (n.kind = 3 ∧ ne = true) ∨ n.kind ≠ 3 := by
          rcases hgo with h | h | h
          · exact .inl h
          · exact absurd h h1
          · exact .inr h.1
        clear hgo h1
        rcases hgo' with ⟨h3, rfl⟩ | h3
        case' inl => have B3 : (n.kind == 3) = true := by simp [h3]
        case' inr => have B3 : (n.kind == 3) = false := by simp [h3]
        all_goals
          clear h3
          have HKP := Lib.hid (fun ob => input_keptK hB1 HOW.out ob)
          have HOWN := Lib.hid (fun ob => OwnK.later HOW.out (below_new w1 ob))
          have hwr : w.heap.size ≤ w1.heap.size + 1 := by omega
          clear hz1
          go_wp2_with (first
            | (go_at_call 34; refine (HHS.out _).mono ?_; rintro e w3 ⟨rfl, rfl⟩)
            | (at_builtin; refine wpList_append_nodeK rfl _ _ rfl w.heap.size P out _ rfl (HOWN.out _) ⟨n, .slice A3 n.attrs.length c3, .slice A4 n.kids.length c4⟩ ⟨w1.heap.size, 0, none⟩ 1 rfl (new_five _ _ _) ((HAT.out.at_.keep (HKP.out _).1).mono (HKP.out _).2) ((HAT.out.kids.keep (HKP.out _).1).mono (HKP.out _).2) (by omega) (by simpa using hwr) ?_; intro v' w2 hown' hgrow))
          have hB2 : Below w.heap.size w w2 := (hB1.alloc hB1.size _).grown hgrow (by simpa using hwr) (fun g hg => (OwnT.lt HOW.out g hg).1)
          clear hgrow
          go_roundw
          case rel => exact ⟨k + 1, by go_num, hk4, by rw [HFS.out, HG.out, if_pos rfl, HST.out]; exact hown', hB2⟩
          case measure => simp [intOf]; omega
    · have hke : k = l.length := by omega
      have HOW := Lib.hid (show OwnK wr w.heap.size P (stdT l) _ by have := HO.out; rwa [hke, List.take_length] at this)
      have HM := Lib.hid (fun v' (h : OwnK wr w.heap.size P (stdT l) v') => mergeR_anyK P (stdT l) v' wr (h.tree HP.out) (by have := std_sz l; omega))
      go_wp2_with fail
      refine (HM.out _ HOW.out).mono ?_
      rintro e w3 ⟨v3, rfl, ho3, hb3⟩
      have HO3 := Lib.hid ho3
      have hB3 := below_after hbr hb3
      have hwsz := hbr.size
      clear ho3
      go_wp2_with fail
      go_ret
      exact ⟨_, rfl, OwnK.tree HO3.out (fun b hb => HP.out b (by omega)), hB3⟩

end Go.Proofs.YthmnnalamaponaaGreat

/- Part Good6. -/
namespace Go.Proofs.YthmnnalamaponaaGreat
open Go.RowKit
set_option linter.unusedVariables false

/-- Stable nodes, made of any: new ones, and what they weigh. -/
def StableEnd (w : World) (e : Ending) (w' : World) : Prop :=
  ∃ G v', e = .returned v' ∧ Tree (fun b => w.heap.size ≤ b ∧ b < w'.heap.size) w' (steadyB G) v' ∧ GoodL G ∧ szL G ≤ 67200 ∧ Below w.heap.size w w'

set_option maxHeartbeats 2000000 in
theorem goodR6_any (l : List Nd) (v : Value) (w : World) (hT : Tree (· < w.heap.size) w l v) (hF : Fine l) : Calls Tryz.prog 7 #[v] w (StableEnd w) := by
  have HG := Lib.hid (goodR_any l v w hT hF)
  clear hT hF
  go_enter Tryz.func7, Tryz.ntmps7
  go_wp2_with fail
  refine HG.out.mono ?_
  rintro e w1 ⟨G, v1, rfl, ho, hg, hz, hb⟩
  have HS := Lib.hid (steadyR_any G (fun b => w.heap.size ≤ b) v1 w1 (fun b h => Nat.le_trans hb.size h) (OwnC.tree ho (Nat.le_refl _)) (by omega))
  have HGL := Lib.hid hg
  clear ho hg
  go_wp2_with fail
  refine HS.out.mono ?_
  rintro e w2 ⟨v2, rfl, ht, hb2⟩
  have HT2 := Lib.hid ht
  clear ht
  go_wp2_with fail
  go_ret
  exact ⟨G, _, rfl, HT2.out, HGL.out, hz, below_after hb hb2⟩

end Go.Proofs.YthmnnalamaponaaGreat

/- Part MayM. -/
namespace Go.Proofs.YthmnnalamaponaaGreat
set_option linter.unusedVariables false

/-- The first error of attributes' names; those ahead of them are given. -/
def nameE (done : List ByteArray) : List (ByteArray × ByteArray) → Int
  | [] => 0
  | a :: l => if attrB a.1.data.toList = true then (if done.any (fun x => decide (x = a.1)) = true then 5 else nameE (done ++ [a.1]) l) else 4
/-- .. of their values. -/
def valE (l : List (ByteArray × ByteArray)) : Int := if l.all (fun a => isB a.2.data.toList) = true then 0 else 2
/-- An element's own first error. -/
def elemE (n : Nd) : Int :=
  if n.text.data.toList = [] then (if namedB n.name.data.toList = true then (if nameE [] n.attrs = 0 then valE n.attrs else nameE [] n.attrs) else 4) else 7
/-- A node's own first error; b: does a text stand ahead? -/
def nodeE (b : Bool) (n : Nd) : Int :=
  if n.kind = 1 then elemE n
  else if n.kind = 2 ∨ n.kind = 3 then
    (if n.name.data.toList = [] ∧ n.attrs = [] ∧ n.kids = [] then (if isB n.text.data.toList = true ∧ ¬ (n.kind = 2 ∧ (n.text.data.toList = [] ∨ b = true)) then 0 else 2) else 7)
  else 7
mutual
def mayN (b : Bool) : Nd → Int
  | .mk k n a t ks => if nodeE b (.mk k n a t ks) = 0 then mayL false ks else nodeE b (.mk k n a t ks)
/-- The first error of nodes. -/
def mayL (b : Bool) : List Nd → Int
  | [] => 0
  | n :: l => if mayN b n = 0 then mayL (n.kind == 2) l else mayN b n
end
theorem mayN_eq (b : Bool) (n : Nd) : mayN b n = if nodeE b n = 0 then mayL false n.kids else nodeE b n := by cases n; simp [mayN, Nd.kids]
theorem mayL_nil (b : Bool) : mayL b [] = 0 := by simp [mayL]
theorem mayL_cons (b : Bool) (n : Nd) (l : List Nd) : mayL b (n :: l) = if mayN b n = 0 then mayL (n.kind == 2) l else mayN b n := by simp [mayL]

theorem nameE_ok : ∀ (l : List (ByteArray × ByteArray)) (done : List ByteArray), (∀ a ∈ l, attrB a.1.data.toList = true) → l.Pairwise (fun a b => a.1 ≠ b.1) → (∀ a ∈ l, ∀ x ∈ done, x ≠ a.1) → nameE done l = 0
  | [], _, _, _, _ => rfl
  | a :: l, done, h1, h2, h3 => by
    unfold nameE
    rw [if_pos (h1 a (by simp)), if_neg ?_]
    · rw [List.pairwise_cons] at h2
      refine nameE_ok l _ (fun x hx => h1 x (by simp [hx])) h2.2 ?_
      intro x hx y hy
      rcases List.mem_append.1 hy with hy | hy
      · exact h3 x (by simp [hx]) y hy
      · simp at hy
        subst hy
        exact h2.1 x hx
    · intro h
      rw [List.any_eq_true] at h
      obtain ⟨x, hx, e⟩ := h
      exact h3 a (by simp) x hx (by simpa using e)

theorem nodeE_ok {n : Nd} {b : Bool} (h : nodeOK n) (ht : n.kind = 2 → n.text.data.toList ≠ [] ∧ b = false) : nodeE b n = 0 := by
  unfold nodeE
  rcases h with ⟨h1, h2, h3, h4⟩ | ⟨h1, h2, h3, h4, h5⟩
  · rw [if_pos h1]
    unfold elemE
    rw [if_pos h3, if_pos h2, if_pos (nameE_ok _ _ (fun a ha => (h4.1 a ha).1) h4.2 (by simp))]
    unfold valE
    rw [if_pos (by rw [List.all_eq_true]; exact fun a ha => (h4.1 a ha).2)]
  · have hno : ¬ (n.kind = 2 ∧ (n.text.data.toList = [] ∨ b = true)) := by
      intro hk
      have := ht hk.1
      rcases hk.2 with e | e
      · exact this.1 e
      · rw [this.2] at e
        cases e
    rw [if_neg (by omega), if_pos h1, if_pos ⟨h2, h3, h4⟩, if_pos ⟨h5, hno⟩]

/-- Nodes that may be have no error. -/
theorem good_may {l : List Nd} (h : GoodL l) : mayL false l = 0 := by
  induction h with
  | mk l hn hs hk ih =>
    have key : ∀ (l : List Nd) (b : Bool), (∀ n ∈ l, nodeOK n) → sides b l → (∀ n ∈ l, mayL false n.kids = 0) → mayL b l = 0 := by
      intro l
      induction l with
      | nil => intro b _ _ _; exact mayL_nil b
      | cons n l ihl =>
        intro b h1 h2 h3
        simp only [sides] at h2
        have e : mayN b n = 0 := by rw [mayN_eq, if_pos (nodeE_ok (h1 n (by simp)) h2.1), h3 n (by simp)]
        rw [mayL_cons, if_pos e]
        exact ihl _ (fun x hx => h1 x (by simp [hx])) h2.2 (fun x hx => h3 x (by simp [hx]))
    exact key l false hn hs ih

end Go.Proofs.YthmnnalamaponaaGreat

/- Part MayR. -/
namespace Go.Proofs.YthmnnalamaponaaGreat
open Go.RowKit
set_option linter.unusedVariables false

theorem valE_false {l : List (ByteArray × ByteArray)} {k : Nat} {a : ByteArray × ByteArray} (h : l[k]? = some a) (hb : isB a.2.data.toList = false) : valE l = 2 := by
  unfold valE
  rw [if_neg]
  intro e
  rw [List.all_eq_true] at e
  have := e a (List.mem_of_getElem? h)
  rw [hb] at this
  cases this

/-- After k names: the names so far have no error. -/
theorem nameE_skip : ∀ (l : List (ByteArray × ByteArray)) (k : Nat) (done : List ByteArray), nameE done l = nameE done (l.take k) ∨ nameE done (l.take k) = 0 := by
  intro l
  induction l with
  | nil => intro k done; left; simp
  | cons a l ih =>
    intro k done
    cases k with
    | zero => right; rfl
    | succ k =>
      rw [List.take_succ_cons]
      unfold nameE
      by_cases h : attrB a.1.data.toList = true
      · rw [if_pos h, if_pos h]
        by_cases h2 : done.any (fun x => decide (x = a.1)) = true
        · rw [if_pos h2, if_pos h2]; exact .inl rfl
        · rw [if_neg h2, if_neg h2]
          exact ih k _
      · rw [if_neg h, if_neg h]; exact .inl rfl
theorem nameE_at {l : List (ByteArray × ByteArray)} {k : Nat} {a : ByteArray × ByteArray} (hk : l[k]? = some a) : ∀ (done : List ByteArray), nameE done (l.take k) = 0 →
    nameE done l = nameE (done ++ (l.take k).map (·.1)) (l.drop k) ∧ nameE done (l.take (k + 1)) = nameE (done ++ (l.take k).map (·.1)) [a] := by
  induction l generalizing k with
  | nil => simp at hk
  | cons b l ih =>
    intro done h
    cases k with
    | zero => simp at hk; subst hk; simp
    | succ k =>
      rw [List.take_succ_cons] at h
      simp only [List.take_succ_cons, List.map_cons, List.drop_succ_cons]
      unfold nameE at h
      by_cases h1 : attrB b.1.data.toList = true
      · rw [if_pos h1] at h
        by_cases h2 : done.any (fun x => decide (x = b.1)) = true
        · rw [if_pos h2] at h; omega
        · rw [if_neg h2] at h
          have := ih (k := k) (by simpa using hk) (done ++ [b.1]) h
          rw [List.append_assoc] at this
          refine ⟨?_, ?_⟩
          · conv => lhs; unfold nameE
            rw [if_pos h1, if_neg h2]
            exact this.1
          · conv => lhs; unfold nameE
            rw [if_pos h1, if_neg h2]
            exact this.2
      · rw [if_neg h1] at h; omega

theorem nameE_one (done : List ByteArray) (a : ByteArray × ByteArray) (l : List (ByteArray × ByteArray)) : nameE done (a :: l) = if attrB a.1.data.toList = true then (if done.any (fun x => decide (x = a.1)) = true then 5 else nameE (done ++ [a.1]) l) else 4 := by
  conv => lhs; unfold nameE

structure ElAt (w1 wr : World) (l : List (ByteArray × ByteArray)) (k : Nat) : Prop where
  le : k ≤ l.length
  is : nameE [] (l.take k) = 0
  bel : Below w1.heap.size w1 wr
def ElRel (w1 : World) (l : List (ByteArray × ByteArray)) (y : Value) (wr : World) : Prop := ∃ k : Nat, y = .int .i64 k ∧ ElAt w1 wr l k
structure ElIn (w1 wr : World) (l : List (ByteArray × ByteArray)) (k j : Nat) (x : ByteArray) : Prop where
  le : j ≤ k
  is : ∀ b ∈ l.take j, b.1 ≠ x
  bel : Below w1.heap.size w1 wr
def ElInRel (w1 : World) (l : List (ByteArray × ByteArray)) (k : Nat) (x : ByteArray) (y : Value) (wr : World) : Prop := ∃ j : Nat, y = .int .i64 j ∧ ElIn w1 wr l k j x
structure ElVal (w1 wr : World) (l : List (ByteArray × ByteArray)) (k : Nat) : Prop where
  le : k ≤ l.length
  is : ∀ b ∈ l.take k, isB b.2.data.toList = true
  bel : Below w1.heap.size w1 wr
def ElValRel (w1 : World) (l : List (ByteArray × ByteArray)) (y : Value) (wr : World) : Prop := ∃ k : Nat, y = .int .i64 k ∧ ElVal w1 wr l k

theorem below_dN {B : Nat} {a w : World} (h : Below B a w) (n : Nat) : Below B a (w.drewN n) := h.trans ⟨rfl, rfl, rfl, Nat.le_refl _, fun _ _ => rfl⟩

set_option maxHeartbeats 4000000 in
set_option maxRecDepth 100000 in
theorem elementR_any (S : Nat → Prop) (n : Nd) (va vk : Value) (w : World) (hat : AttrsAt S w n.attrs va) (hS : ∀ b, S b → b < w.heap.size) (hsz : szN n ≤ 100000) :
    Calls Tryz.prog 42 #[.agg #[.int .i64 n.kind, .string n.name, va, .string n.text, vk]] w fun e w' => e = .returned (.int .i64 (elemE n)) ∧ Below w.heap.size w w' := by
  have hne := szN_eq n
  have hln := szA_len n.attrs
  have hnz : n.name.size ≤ 100000 := by omega
  have hal : n.attrs.length ≤ 10000 := by omega
  have hat0 := hat
  obtain ⟨A, c, rfl, hc, _⟩ := hat
  have HAT := Lib.hid hat0
  clear hat0
  obtain ⟨qn, hqn⟩ : ∃ q, namedB n.name.data.toList = q := ⟨_, rfl⟩
  obtain ⟨qt, hqt⟩ : ∃ q, n.text.toList.isEmpty = q := ⟨_, rfl⟩
  have hNm := fun w => namedR_any n.name w hnz
  rw [hqn] at hNm
  have HNM := Lib.hid hNm
  have HQN := Lib.hid hqn
  have HEE := Lib.hid (show elemE n = if qt = true then (if qn = true then (if nameE [] n.attrs = 0 then valE n.attrs else nameE [] n.attrs) else 4) else 7 by
    unfold elemE
    rw [hqn, ← hqt]
    by_cases h : n.text.data.toList = []
    · have e : n.text.toList.isEmpty = true := by rw [Lib.toList_data, h]; rfl
      rw [if_pos h, e]
      rfl
    · have e : n.text.toList.isEmpty = false := by
        rw [Lib.toList_data]
        cases hh : n.text.data.toList with
        | nil => exact absurd hh h
        | cons a b => rfl
      rw [if_neg h, e]
      rfl)
  have HNE := Lib.hid hne
  clear hqn hNm hne
  go_enter Tryz.func42, Tryz.ntmps42
  go_wp2_with fail
  refine (HNM.out _).mono ?_
  rintro e w0 ⟨rfl, rfl⟩
  cases qt with
  | false =>
    go_wp2_with fail
    go_ret
    exact ⟨by rw [HEE.out]; rfl, below_new _ _⟩
  | true =>
    cases qn with
    | false =>
      go_wp2_with fail
      go_ret
      exact ⟨by rw [HEE.out]; rfl, below_new _ _⟩
    | true =>
      go_wp2_with fail
      obtain ⟨w1, hw1⟩ : ∃ w1, w.alloc (.cells #[.int .i64 n.kind, .string n.name, .slice A n.attrs.length c, .string n.text, vk] 35) = w1 := ⟨_, rfl⟩
      have hz1 : w1.heap.size = w.heap.size + 1 := by rw [← hw1]; simp
      have hb1 : Below w.heap.size w w1 := by rw [← hw1]; exact below_new _ _
      have d2 : w1.cell? ⟨w.heap.size, 2, none⟩ = some (.slice A n.attrs.length c) := by rw [← hw1]; simp
      rw [hw1]
      have hat1 : AttrsAt (fun b => b < w.heap.size) w1 n.attrs (.slice A n.attrs.length c) := (HAT.out.mono hS).keep (Kept.belowB hb1 fun b h => h)
      have HA1 := Lib.hid hat1
      have HD2 := Lib.hid d2
      have HB1 := Lib.hid hb1
      have HZ1 := Lib.hid hz1
      clear hw1 hat1 d2 hb1 hz1
      go_loopw [4] (fun y wr => ElRel w1 n.attrs y wr) (fun y _ => n.attrs.length - (intOf y).toNat)
      case atStart => exact ⟨0, rfl, by omega, rfl, Below.refl _ _⟩
      case round =>
        obtain ⟨k, rfl, HR⟩ := hrel
        have hk := HR.le
        have hbel := HR.bel
        have HIS := Lib.hid HR.is
        clear HR
        have hB1 := HZ1.out
        have g2 : wr.cell? ⟨w.heap.size, 2, none⟩ = some (.slice A n.attrs.length c) := (hbel.cell (p := ⟨w.heap.size, 2, none⟩) (by show w.heap.size < _; omega)).trans HD2.out
        by_cases hlt : k < n.attrs.length
        · obtain ⟨b, o, c', hv, _, hSb, hcell⟩ := HA1.out.at_ (by omega)
          injection hv with hA _ hcc
          subst hA
          subst hcc
          obtain ⟨x, hx⟩ : ∃ x, n.attrs[k]? = some x := ⟨_, List.getElem?_eq_getElem hlt⟩
          have hbw : b < w1.heap.size := by omega
          have p0 : wr.cell? ⟨b, o + k * 2, none⟩ = some (.string x.1) := (hbel.cell (p := ⟨b, o + k * 2, none⟩) hbw).trans (hcell k x hx).1
          have hxs := szA_at hx
          have hxn : x.1.size ≤ 100000 := by have := HNE.out; omega
          have HX := Lib.hid hx
          have HC := Lib.hid hcell
          have hns := nameE_at hx [] HIS.out
          have hdr : n.attrs.drop k = x :: n.attrs.drop (k + 1) := by
            have := List.drop_eq_getElem_cons (l := n.attrs) (i := k) hlt
            rw [List.getElem?_eq_getElem hlt] at hx
            injection hx with hx
            rw [hx] at this
            exact this
          rw [hdr, nameE_one, nameE_one, List.nil_append] at hns
          obtain ⟨q, hq⟩ : ∃ q, attrB x.1.data.toList = q := ⟨_, rfl⟩
          have hai := fun w => attrR_any x.1 w hxn
          rw [hq] at hai hns
          have HAI := Lib.hid hai
          have HNS := Lib.hid hns
          clear hcell hx hai hns hdr hq
          cases q with
          | false =>
            go_wp2_with fail
            refine (HAI.out _).mono ?_
            rintro e w2 ⟨rfl, hb2⟩
            have hB2 := below_after HB1.out (below_after hbel hb2)
            go_wp2_with fail
            go_ret
            refine ⟨?_, hB2⟩
            rw [HEE.out]
            have h4 : nameE [] n.attrs = 4 := HNS.out.1
            rw [h4]
            rfl
          | true =>
            have hin1 : (k : Int) < (n.attrs.length : Int) := by omega
            go_wp2_with fail
            refine (HAI.out _).mono ?_
            rintro e w2 ⟨rfl, hb2⟩
            have hbel2 : Below w1.heap.size w1 w2 := below_after hbel hb2
            go_wp2_with fail
            clear g2 p0
            obtain ⟨wo, rfl⟩ : ∃ wo : World, wo = wr := ⟨_, rfl⟩
            go_loopw [6] (fun y wr => ElInRel w1 n.attrs k x.1 y wr) (fun y _ => k - (intOf y).toNat)
            case atStart => exact ⟨0, rfl, by omega, by simp, hbel2⟩
            case round =>
              obtain ⟨j, rfl, HJ⟩ := hrel
              have hj := HJ.le
              have hbj := HJ.bel
              have HJS := Lib.hid HJ.is
              clear HJ
              by_cases hjk : j < k
              · obtain ⟨z, hz⟩ : ∃ z, n.attrs[j]? = some z := ⟨_, List.getElem?_eq_getElem (by omega)⟩
                have g2 : wr.cell? ⟨w.heap.size, 2, none⟩ = some (.slice (some ⟨b, o, none⟩) n.attrs.length c) := (hbj.cell (p := ⟨w.heap.size, 2, none⟩) (by show w.heap.size < _; omega)).trans HD2.out
                have p0 : wr.cell? ⟨b, o + k * 2, none⟩ = some (.string x.1) := (hbj.cell (p := ⟨b, o + k * 2, none⟩) hbw).trans (HC.out k x HX.out).1
                have p1 : wr.cell? ⟨b, o + j * 2, none⟩ = some (.string z.1) := (hbj.cell (p := ⟨b, o + j * 2, none⟩) hbw).trans (HC.out j z hz).1
                have hin2 : (j : Int) < (n.attrs.length : Int) := by omega
                have HZ := Lib.hid hz
                by_cases hzx : z.1 = x.1
                · have he : (z.1.toList == x.1.toList) = true := by rw [str_eq]; simp [hzx]
                  have h5 : nameE [] n.attrs = 5 := by
                    rw [HNS.out.1, if_pos (by trivial), if_pos]
                    rw [List.any_eq_true]
                    refine ⟨z.1, List.mem_map.2 ⟨z, List.mem_of_getElem? (i := j) (by rw [List.getElem?_take, if_pos hjk]; exact hz), rfl⟩, by simp [hzx]⟩
                  have H5 := Lib.hid h5
                  have hB2 := below_after HB1.out hbj
                  clear hz hzx h5
                  go_wp2_with fail
                  go_quiet (fail)
                  go_wp2
                  go_ret
                  refine ⟨?_, below_dN hB2 _⟩
                  rw [HEE.out, H5.out]
                  rfl
                · have he : (z.1.toList == x.1.toList) = false := by rw [str_eq]; simp [hzx]
                  have HN := Lib.hid (show ∀ b ∈ n.attrs.take (j + 1), b.1 ≠ x.1 by
                    intro y hy
                    rw [List.take_add_one, hz] at hy
                    rcases List.mem_append.1 hy with hy | hy
                    · exact HJS.out y hy
                    · simp at hy
                      subst hy
                      exact hzx)
                  clear hz hzx
                  go_wp2_with fail
                  go_quiet (fail)
                  go_wp2
                  go_roundw
                  case rel => exact ⟨j + 1, by go_num, by omega, HN.out, below_dN hbj _⟩
                  case measure => simp [intOf]; omega
              · have HN := Lib.hid (show nameE [] (n.attrs.take (k + 1)) = 0 by
                  rw [HNS.out.2, if_pos (by trivial), if_neg]
                  · rfl
                  · intro e
                    rw [List.any_eq_true] at e
                    obtain ⟨y, hy, e⟩ := e
                    obtain ⟨a, ha, rfl⟩ := List.mem_map.1 hy
                    refine HJS.out a ?_ (by simpa using e)
                    have : j = k := by omega
                    rw [this]
                    exact ha)
                go_wp2_with fail
                go_roundw
                case rel => exact ⟨k + 1, by go_num, by omega, HN.out, hbj⟩
                case measure => simp [intOf]; omega
        · have hall : nameE [] n.attrs = 0 := by
            have := HIS.out
            rwa [List.take_of_length_le (by omega)] at this
          have HAL := Lib.hid (show elemE n = valE n.attrs by rw [HEE.out, hall]; rfl)
          clear hall
          go_wp2_with fail
          obtain ⟨wo, rfl⟩ : ∃ wo : World, wo = wr := ⟨_, rfl⟩
          go_loopw [7] (fun y wr => ElValRel w1 n.attrs y wr) (fun y _ => n.attrs.length - (intOf y).toNat)
          case atStart => exact ⟨0, rfl, by omega, by simp, hbel⟩
          case round =>
            obtain ⟨j, rfl, HJ⟩ := hrel
            have hj := HJ.le
            have hbj := HJ.bel
            have HJS := Lib.hid HJ.is
            clear HJ
            have g2' : wr.cell? ⟨w.heap.size, 2, none⟩ = some (.slice A n.attrs.length c) := (hbj.cell (p := ⟨w.heap.size, 2, none⟩) (by show w.heap.size < _; omega)).trans HD2.out
            by_cases hjl : j < n.attrs.length
            · obtain ⟨b, o, c', hv, _, hSb, hcell⟩ := HA1.out.at_ (by omega)
              injection hv with hA _ hcc
              subst hA
              subst hcc
              obtain ⟨z, hz⟩ : ∃ z, n.attrs[j]? = some z := ⟨_, List.getElem?_eq_getElem hjl⟩
              have hbw : b < w1.heap.size := by omega
              have p1 : wr.cell? ⟨b, o + j * 2 + 1, none⟩ = some (.string z.2) := (hbj.cell (p := ⟨b, o + j * 2 + 1, none⟩) hbw).trans (hcell j z hz).2
              have hzs := szA_at hz
              have hzn : z.2.size ≤ 100000 := by have := HNE.out; omega
              obtain ⟨q, hq⟩ : ∃ q, isB z.2.data.toList = q := ⟨_, rfl⟩
              have hai := fun w => isR_any z.2 w hzn
              rw [hq] at hai
              have HAI := Lib.hid hai
              have HZ := Lib.hid hz
              have HQ := Lib.hid hq
              clear hcell hz hai hq
              cases q with
              | false =>
                have H2 := Lib.hid (valE_false HZ.out HQ.out)
                go_wp2_with fail
                refine (HAI.out _).mono ?_
                rintro e w2 ⟨rfl, hb2⟩
                have hB2 := below_after HB1.out (below_after hbj hb2)
                go_wp2_with fail
                go_ret
                refine ⟨?_, hB2⟩
                rw [HAL.out, H2.out]
                rfl
              | true =>
                have HN := Lib.hid (show ∀ b ∈ n.attrs.take (j + 1), isB b.2.data.toList = true by
                  intro y hy
                  rw [List.take_add_one, HZ.out] at hy
                  rcases List.mem_append.1 hy with hy | hy
                  · exact HJS.out y hy
                  · simp at hy
                    subst hy
                    exact HQ.out)
                go_wp2_with fail
                refine (HAI.out _).mono ?_
                rintro e w2 ⟨rfl, hb2⟩
                have hb22 := below_after hbj hb2
                go_wp2_with fail
                go_roundw
                case rel => exact ⟨j + 1, by go_num, by omega, HN.out, hb22⟩
                case measure => simp [intOf]; omega
            · have H0 := Lib.hid (show valE n.attrs = 0 by
                unfold valE
                rw [if_pos]
                rw [List.all_eq_true]
                intro a ha
                have := HJS.out
                rw [List.take_of_length_le (by omega)] at this
                exact this a ha)
              have hB2 := below_after HB1.out hbj
              go_wp2_with fail
              go_ret
              refine ⟨?_, hB2⟩
              rw [HAL.out, H0.out]
              rfl

end Go.Proofs.YthmnnalamaponaaGreat

/- Part MayO. -/
namespace Go.Proofs.YthmnnalamaponaaGreat
open Go.RowKit
set_option linter.unusedVariables false

theorem empty_iff (s : ByteArray) : s.toList.isEmpty = decide (s.data.toList = []) := by
  rw [Lib.toList_data]
  cases h : s.data.toList with
  | nil => rfl
  | cons a b => simp

theorem if_iff {α : Type} {P Q : Prop} [Decidable P] [Decidable Q] (h : P ↔ Q) (a b : α) : (if P then a else b) = if Q then a else b := by
  by_cases p : P
  · rw [if_pos p, if_pos (h.1 p)]
  · rw [if_neg p, if_neg fun q => p (h.2 q)]

set_option maxHeartbeats 4000000 in
set_option maxRecDepth 100000 in
theorem oneR_any (S : Nat → Prop) (n : Nd) (va vk : Value) (b : Bool) (w : World) (hat : AttrsAt S w n.attrs va) (hkt : Tree S w n.kids vk) (hS : ∀ b, S b → b < w.heap.size) (hsz : szN n ≤ 100000) :
    Calls Tryz.prog 26 #[.agg #[.int .i64 n.kind, .string n.name, va, .string n.text, vk], .bool b] w fun e w' => e = .returned (.int .i64 (nodeE b n)) ∧ Below w.heap.size w w' := by
  have hne := szN_eq n
  have htz : n.text.size ≤ 100000 := by omega
  have hat0 := hat
  obtain ⟨A, c, rfl, hc, _⟩ := hat
  obtain ⟨A', c', rfl, hc'⟩ := hkt.shape
  by_cases k1 : n.kind = 1
  · have B1 : (n.kind == 1) = true := by simp [k1]
    have HEL := Lib.hid (show nodeE b n = elemE n by unfold nodeE; rw [if_pos k1])
    have hat1 : AttrsAt (fun x => x < w.heap.size) (w.alloc (.cells #[.int .i64 n.kind, .string n.name, .slice A n.attrs.length c, .string n.text, .slice A' n.kids.length c'] 35)) n.attrs (.slice A n.attrs.length c) :=
      (hat0.mono hS).keep (Kept.belowB (below_new _ _) fun b h => h)
    have hEl := elementR_any (fun x => x < w.heap.size) n (.slice A n.attrs.length c) (.slice A' n.kids.length c') _ hat1 (fun b h => by simp; omega) hsz
    have HE := Lib.hid hEl
    clear hat0 hkt hat1 hEl k1
    go_enter Tryz.func26, Tryz.ntmps26
    go_wp2_with fail
    refine HE.out.mono ?_
    rintro e w1 ⟨rfl, hb1⟩
    have hB := below_after (below_new _ _) hb1
    go_wp2_with fail
    go_ret
    exact ⟨by rw [HEL.out]; rfl, hB⟩
  have B1 : (n.kind == 1) = false := by simp [k1]
  by_cases k23 : n.kind = 2 ∨ n.kind = 3
  · obtain ⟨q1, h1⟩ : ∃ q, n.name.toList.isEmpty = q := ⟨_, rfl⟩
    have hn1 : (n.name.data.toList = []) ↔ q1 = true := by rw [← h1, empty_iff]; simp
    have hk2 : (n.kind != 2) = false ∨ ((n.kind != 2) = true ∧ (n.kind != 3) = false) := by
      rcases k23 with h | h
      · exact .inl (by simp [h])
      · exact .inr ⟨by simp [h], by simp [h]⟩
    have hNE : nodeE b n = if q1 = true ∧ n.attrs = [] ∧ n.kids = [] then (if isB n.text.data.toList = true ∧ ¬ (n.kind = 2 ∧ (n.text.data.toList = [] ∨ b = true)) then 0 else 2) else 7 := by
      unfold nodeE
      rw [if_neg k1, if_pos k23]
      exact if_iff (and_congr hn1 Iff.rfl) _ _
    by_cases hz : q1 = true ∧ n.attrs = [] ∧ n.kids = []
    · obtain ⟨rfl, ha, hk⟩ := hz
      rw [if_pos ⟨rfl, ha, hk⟩] at hNE
      have hal : n.attrs.length = 0 := by rw [ha]; rfl
      have hkl : n.kids.length = 0 := by rw [hk]; rfl
      rw [hal, hkl]
      obtain ⟨q2, h2⟩ : ∃ q, isB n.text.data.toList = q := ⟨_, rfl⟩
      have hIs := fun w => isR_any n.text w htz
      rw [h2] at hIs hNE
      obtain ⟨q3, h3⟩ : ∃ q, n.text.toList.isEmpty = q := ⟨_, rfl⟩
      have ht3 : (n.text.data.toList = []) ↔ q3 = true := by rw [← h3, empty_iff]; simp
      obtain ⟨q4, h4⟩ : ∃ q, (n.kind == 2) = q := ⟨_, rfl⟩
      have hk4 : (n.kind = 2) ↔ q4 = true := by rw [← h4]; simp
      replace hNE := hNE.trans (if_iff (and_congr Iff.rfl (not_congr (and_congr hk4 (or_congr ht3 Iff.rfl)))) _ _)
      have HI := Lib.hid hIs
      have HN := Lib.hid hNE
      clear hIs hNE h2 hat0 hkt ht3 hk4 ha hk hal hkl k23 hn1 hc hc' k1
      rcases hk2 with hk2 | ⟨hk2, hk3⟩
      all_goals
        cases q2
        case' true => cases q4
        case' true.true => cases q3
        case' true.true.false => cases b
        all_goals
          go_enter Tryz.func26, Tryz.ntmps26
          go_wp2_with fail
          refine (HI.out _).mono ?_
          rintro e w1 ⟨rfl, hb1⟩
          have hB := below_after (below_new _ _) hb1
          have d0 := (hb1.cell (p := ⟨w.heap.size, 0, none⟩) (by simp)).trans (show _ = some (.int .i64 n.kind) by simp)
          have d3 := (hb1.cell (p := ⟨w.heap.size, 3, none⟩) (by simp)).trans (show _ = some (.string n.text) by simp)
          clear hb1
          go_wp2_with fail
          go_ret
          exact ⟨by rw [HN.out]; simp, hB⟩
    · rw [if_neg hz] at hNE
      have HN := Lib.hid hNE
      have hz' : q1 = false ∨ (q1 = true ∧ 0 < n.attrs.length) ∨ (q1 = true ∧ n.attrs.length = 0 ∧ 0 < n.kids.length) := by
        cases q1 with
        | false => exact .inl rfl
        | true =>
          right
          rcases Nat.eq_zero_or_pos n.attrs.length with h | h
          · right
            refine ⟨rfl, h, ?_⟩
            rcases Nat.eq_zero_or_pos n.kids.length with h' | h'
            · exact absurd ⟨rfl, List.eq_nil_of_length_eq_zero h, List.eq_nil_of_length_eq_zero h'⟩ hz
            · exact h'
          · exact .inl ⟨rfl, h⟩
      have D1 : 0 < n.attrs.length → decide ((0 : Int) < (n.attrs.length : Int)) = true := fun h => by simp; omega
      clear hNE hat0 hkt k23 hn1 hc hc' k1 hz
      rcases hz' with rfl | ⟨rfl, ha⟩ | ⟨rfl, ha, hk⟩
      case' inr.inr => rw [ha]
      all_goals
        clear D1
        rcases hk2 with hk2 | ⟨hk2, hk3⟩
        all_goals
          go_enter Tryz.func26, Tryz.ntmps26
          go_wp2_with fail
          go_ret
          exact ⟨by rw [HN.out]; rfl, below_new _ _⟩
  · have B2 : (n.kind != 2) = true := by simp; omega
    have B3 : (n.kind != 3) = true := by simp; omega
    have HN := Lib.hid (show nodeE b n = 7 by unfold nodeE; rw [if_neg k1, if_neg k23])
    clear hat0 hkt k1 k23
    go_enter Tryz.func26, Tryz.ntmps26
    go_wp2_with fail
    go_ret
    exact ⟨by rw [HN.out]; rfl, below_new _ _⟩

end Go.Proofs.YthmnnalamaponaaGreat
