/- Parts of the proof, in build order: Ptk7 Ptb7. -/
import Derived.Test.YtfdgmoakobjohaaK17
import Derived.Test.YtfdgmoakobjohaaK11
import Derived.Test.YtfdgmoakobjohaaK06
import Derived.Test.YtfdgmoakobjohaaK09
import Derived.RegionTactic
import Derived.IntWalk

/- Part Ptk7. -/
namespace Go.Proofs.Ytfdgmoakobjohaa
open Go.RowKit
set_option linter.unusedVariables false

/-- A builder, where it lies. -/
def BAt (P : Nat → Prop) (w : World) (s : Bst) (v : Value) : Prop := ∃ vL vP, v = .agg #[vL, vP] ∧ Tree (fun b => P b ∧ b < w.heap.size) w (nodesB s) vL ∧ PathAt (fun b => P b ∧ b < w.heap.size) w (pathB s) vP
def PutTRet (P : Nat → Prop) (s : Bst) (w : World) (e : Ending) (w' : World) : Prop := ∃ v', e = .returned v' ∧ BAt P w' s v' ∧ Below w.heap.size w w'
theorem nodes_sz (s : Bst) : szL (nodesB s) ≤ szB s := by
  have h := popN_sz s.fs.length s
  unfold szB at h
  have : szL (popN s.fs.length s).out ≤ szFs (popN s.fs.length s).fs + szL (popN s.fs.length s).out := by omega
  unfold nodesB szB
  omega
theorem fs_len : ∀ fs : List Fr, 10 * fs.length ≤ szFs fs
  | [] => by simp [szFs]
  | f :: fs => by
    have := fs_len fs
    simp only [szFs, List.length_cons]
    unfold szF
    omega

theorem box_keep7 {W W' : World} {k : Nat} {cs : Array Value} {t : TypeId} (h : W.heap[k]? = some (.cells cs t (0, 0))) (hb : Below W.heap.size W W') : W'.heap[k]? = some (.cells cs t (0, 0)) :=
  (hb.block k (Array.getElem?_eq_some_iff.1 h).1).trans h
theorem froz7 {W : World} {k : Nat} {cs : Array Value} {t : TypeId} (h : W.heap[k]? = some (.cells cs t (0, 0))) (j : Nat) : W.frozen? ⟨k, j, none⟩ = false := by simp [World.frozen?, h]
/-- Put's three boxes: the builder, the token, the result. -/
def oB (x y : Value) : Obj := .cells #[x, y] 64
def oT (k : Tk) (va : Value) : Obj := .cells #[.int .i64 k.kind, .string k.name, va, .string k.text] 34
structure PB (P : Nat → Prop) (w W : World) (vL vP va : Value) (k : Tk) : Prop where
  hb : W.heap[w.heap.size]? = some (oB vL vP)
  ht : W.heap[w.heap.size + 1]? = some (oT k va)
  hr : W.heap[w.heap.size + 1 + 1]? = some (oB (.slice none 0 0) (.slice none 0 0))
  bel : Below w.heap.size w W
  siz : w.heap.size + 3 ≤ W.heap.size
  new : ∀ b, w.heap.size ≤ b → P b
theorem PB.start {P : Nat → Prop} (w : World) (hPN : ∀ b, w.heap.size ≤ b → P b) (vL vP va : Value) (k : Tk) : PB P w (((w.alloc (oB vL vP)).alloc (oT k va)).alloc (oB (.slice none 0 0) (.slice none 0 0))) vL vP va k := by
  have h1 : ((w.alloc (oB vL vP)).alloc (oT k va)).heap[w.heap.size + 1]? = some (oT k va) := alloc_here' (by rw [World.size_alloc])
  refine ⟨alloc_past (alloc_past (alloc_here' rfl)), alloc_past h1, alloc_here' (by rw [World.size_alloc, World.size_alloc]), ?_, by rw [World.size_alloc, World.size_alloc, World.size_alloc]; omega, hPN⟩
  exact ((below_new w _).alloc (by rw [World.size_alloc]; omega) _).alloc (by rw [World.size_alloc, World.size_alloc]; omega) _
theorem PB.keep {P : Nat → Prop} {w W W' : World} {vL vP va : Value} {k : Tk} (h : PB P w W vL vP va k) (hb : Below W.heap.size W W') : PB P w W' vL vP va k :=
  ⟨box_keep7 h.hb hb, box_keep7 h.ht hb, box_keep7 h.hr hb, below_after h.bel hb, Nat.le_trans h.siz hb.size, h.new⟩
/-- What is there, with the result stored. -/
theorem PB.tell {P : Nat → Prop} {w W : World} {vL vP va : Value} {k : Tk} {s : Bst} {x y : Value} (h : PB P w W vL vP va k) (hT : Tree (fun b => (P b ∧ b ≠ w.heap.size + 1 + 1) ∧ b < W.heap.size) W (nodesB s) x) (hP : PathAt (fun b => (P b ∧ b ≠ w.heap.size + 1 + 1) ∧ b < W.heap.size) W (pathB s) y) :
    PutTRet P s w (.returned (.agg #[x, y])) ((W.setCell ⟨w.heap.size + 1 + 1, 0, none⟩ x).setCell ⟨w.heap.size + 1 + 1, 1, none⟩ y) := by
  have hz : ((W.setCell ⟨w.heap.size + 1 + 1, 0, none⟩ x).setCell ⟨w.heap.size + 1 + 1, 1, none⟩ y).heap.size = W.heap.size := by simp
  have kp : Kept (fun b => (P b ∧ b ≠ w.heap.size + 1 + 1) ∧ b < W.heap.size) W ((W.setCell ⟨w.heap.size + 1 + 1, 0, none⟩ x).setCell ⟨w.heap.size + 1 + 1, 1, none⟩ y) := by
    intro b hb j
    rw [World.cell?_setCell_other _ _ _ _ (by intro e; injection e with e; exact hb.1.2 e.symm), World.cell?_setCell_other _ _ _ _ (by intro e; injection e with e; exact hb.1.2 e.symm)]
  refine ⟨_, rfl, ⟨x, y, rfl, (hT.keep kp).mono fun b h => ⟨h.1.1, by rw [hz]; exact h.2⟩, ?_⟩, (h.bel.setCell (by show w.heap.size ≤ w.heap.size + 1 + 1; omega) _).setCell (by show w.heap.size ≤ w.heap.size + 1 + 1; omega) _⟩
  obtain ⟨A, c, h1, h2, h3⟩ := hP
  exact ⟨A, c, h1, h2, (h3.keep kp).mono fun b h => ⟨h.1.1, by rw [hz]; exact h.2⟩⟩
theorem PathAt.go {S S' : Nat → Prop} {w w' : World} {Q : List Nat} {v : Value} (h : PathAt S w Q v) (hk : Kept S w w') (hS : ∀ b, S b → S' b) : PathAt S' w' Q v := by
  obtain ⟨A, c, h1, h2, h3⟩ := h
  exact ⟨A, c, h1, h2, (h3.keep hk).mono hS⟩
/-- What came in, in a world with the boxes. -/
theorem PB.came {P : Nat → Prop} {w W : World} {vL vP va : Value} {k : Tk} (h : PB P w W vL vP va k) {s : Bst} (hB : Tree (fun b => P b ∧ b < w.heap.size) w (nodesB s) vL ∧ PathAt (fun b => P b ∧ b < w.heap.size) w (pathB s) vP ∧ AttrsAt (fun b => P b ∧ b < w.heap.size) w k.attrs va) :
    Tree (fun b => (P b ∧ b ≠ w.heap.size + 1 + 1) ∧ b < W.heap.size) W (nodesB s) vL ∧ PathAt (fun b => (P b ∧ b ≠ w.heap.size + 1 + 1) ∧ b < W.heap.size) W (pathB s) vP ∧ AttrsAt (fun b => (P b ∧ b ≠ w.heap.size + 1 + 1) ∧ b < W.heap.size) W k.attrs va := by
  have kp : Kept (fun b => P b ∧ b < w.heap.size) w W := Kept.belowB h.bel fun b h => h.2
  have hS : ∀ b, (P b ∧ b < w.heap.size) → ((P b ∧ b ≠ w.heap.size + 1 + 1) ∧ b < W.heap.size) := fun b hb => ⟨⟨hb.1, by omega⟩, Nat.lt_of_lt_of_le hb.2 h.bel.size⟩
  exact ⟨(hB.1.keep kp).mono hS, hB.2.1.go kp hS, (hB.2.2.keep kp).mono hS⟩

theorem two_set {W : World} {r b j : Nat} (x y : Value) (h : b ≠ r) : ((W.setCell ⟨r, 0, none⟩ x).setCell ⟨r, 1, none⟩ y).cell? ⟨b, j, none⟩ = W.cell? ⟨b, j, none⟩ := by
  rw [World.cell?_setCell_other _ _ _ _ (by intro e; injection e with e; exact h e.symm), World.cell?_setCell_other _ _ _ _ (by intro e; injection e with e; exact h e.symm)]

/-- All that Put's walks begin with. -/
theorem put_open {P : Nat → Prop} {w : World} {s : Bst} {vL vP va : Value} {k : Tk} (hB : Tree (fun b => P b ∧ b < w.heap.size) w (nodesB s) vL ∧ PathAt (fun b => P b ∧ b < w.heap.size) w (pathB s) vP ∧ AttrsAt (fun b => P b ∧ b < w.heap.size) w k.attrs va) (hsz : szB s + szK k ≤ 90000) (W : World) (h : PB P w W vL vP va k) :
    Calls Try.prog 30 #[.agg #[vL, vP]] W fun e w1 => ∃ v', e = .returned v' ∧ w1.ownsRow W.heap.size 9 1 v' s.fs.length (((s.fs.reverse.map Fr.name)).map Value.string) ∧ PB P w w1 vL vP va k := by
  have hc := h.came hB
  have hnz := nodes_sz s
  have hfl : 10 * s.fs.length ≤ szB s := by have := fs_len s.fs; unfold szB; omega
  refine (open7_any (nodesB s) (pathB s) vL vP W (hc.1.mono fun b h => h.2) (hc.2.1.go (fun b h j => rfl) fun b h => h.2) (ok_of s) (by omega) (by rw [pathB_len]; omega)).mono ?_
  rintro e w1 ⟨v', rfl, ho, hb⟩
  rw [opens_of, pathB_len] at ho
  exact ⟨v', rfl, ho, h.keep hb⟩
theorem put_put {P : Nat → Prop} {w : World} {s : Bst} {vL vP va : Value} {k : Tk} (hB : Tree (fun b => P b ∧ b < w.heap.size) w (nodesB s) vL ∧ PathAt (fun b => P b ∧ b < w.heap.size) w (pathB s) vP ∧ AttrsAt (fun b => P b ∧ b < w.heap.size) w k.attrs va) (hsz : szB s + szK k ≤ 90000) (W : World) (h : PB P w W vL vP va k)
    (n : Nd) (hn : szN n ≤ szK k) (hk : n.kids = []) (x : Value) (hx : n.attrs = [] ∧ x = .slice none 0 0) :
    Calls Try.prog 32 #[vL, vP, .agg #[.int .i64 n.kind, .string n.name, x, .string n.text, .slice none 0 0]] W fun e w1 =>
      ∃ v', e = .returned v' ∧ Tree (fun b => (P b ∧ b ≠ w.heap.size + 1 + 1) ∧ b < w1.heap.size) w1 (nodesB (addTo s n)) v' ∧ PB P w w1 vL vP va k := by
  have hc := h.came hB
  have hnz := nodes_sz s
  obtain ⟨ha, rfl⟩ := hx
  refine (put7_any n (pathB s) (fun b => P b ∧ b ≠ w.heap.size + 1 + 1) (nodesB s) vL vP (.slice none 0 0) (.slice none 0 0) W (fun b hb => ⟨h.new b (by have := h.siz; omega), by have := h.siz; omega⟩) hc.1 (hc.2.1.go (fun b h j => rfl) fun b h => h.2) (ok_of s) (by rw [ha]; exact AttrsAt.nil _ _) (by rw [hk]; exact Tree.nil _ _) (by omega)).mono ?_
  rintro e w1 ⟨v', rfl, ht, hb⟩
  rw [← nodes_add] at ht
  exact ⟨v', rfl, ht, h.keep hb⟩

set_option maxHeartbeats 1000000 in
set_option maxRecDepth 100000 in
theorem putT_add (P : Nat → Prop) (s : Bst) (k : Tk) (v va : Value) (w : World) (hPN : ∀ b, w.heap.size ≤ b → P b) (hB : BAt P w s v) (hat : AttrsAt (fun b => P b ∧ b < w.heap.size) w k.attrs va) (hsz : szB s + szK k ≤ 90000) (hkk : k.kind = 3) :
    Calls Try.prog 23 #[v, .agg #[.int .i64 k.kind, .string k.name, va, .string k.text]] w (PutTRet P (putB s k) w) := by
  obtain ⟨vL, vP, rfl, hT, hP⟩ := hB
  have HB := Lib.hid (And.intro hT (And.intro hP hat))
  obtain ⟨A, c, rfl, _⟩ := hT.shape
  obtain ⟨Ap, cp, rfl, _, _⟩ := id hP
  obtain ⟨Aa, ca, rfl, _, _⟩ := id hat
  have HST := Lib.hid (PB.start (P := P) w hPN (.slice A (nodesB s).length c) (.slice Ap (pathB s).length cp) (.slice Aa k.attrs.length ca) k)
  have HR := Lib.hid (show putB s k = addTo s (textN k.text) by unfold putB; rw [if_neg (by omega), if_neg (by omega), if_pos hkk])
  have HZ := Lib.hid (show szN (textN k.text) ≤ szK k by rw [szN_eq]; unfold szK; show 10 + (tB []).size + k.text.size + 0 + szL [] ≤ _; rw [tB_size, szL_nil]; simp; omega)
  have HPA := Lib.hid (show pathB (addTo s (textN k.text)) = pathB s from path_add _ _)
  have B1 : (k.kind == 1) = false := by simp [hkk]
  have B2 : (k.kind == 2) = false := by simp [hkk]
  have B3 : (k.kind == 3) = true := by simp [hkk]
  clear hT hP hat hkk
  go_enter Try.func23, Try.ntmps23
  go_wp2_with fail
  refine (put_open HB.out hsz _ HST.out).mono ?_
  rintro e w1 ⟨v5, rfl, ho, hpb⟩
  obtain ⟨A5, c5, rfl, _⟩ := own_size ho
  have b0 : w1.cell? ⟨w.heap.size, 0, none⟩ = some (.slice A (nodesB s).length c) := cell_at hpb.hb 0
  have b1 : w1.cell? ⟨w.heap.size, 1, none⟩ = some (.slice Ap (pathB s).length cp) := cell_at hpb.hb 1
  have t0 : w1.cell? ⟨w.heap.size + 1, 0, none⟩ = some (.int .i64 k.kind) := cell_at hpb.ht 0
  have t3 : w1.cell? ⟨w.heap.size + 1, 3, none⟩ = some (.string k.text) := cell_at hpb.ht 3
  have HPB := Lib.hid hpb
  clear ho hpb
  go_wp2_with fail
  have hpd : PB P w w1.drew (.slice A (nodesB s).length c) (.slice Ap (pathB s).length cp) (.slice Aa k.attrs.length ca) k := HPB.out.keep (Below.refl _ _).drew
  have H5 := Lib.hid (put_put HB.out hsz _ hpd (textN k.text) HZ.out rfl (.slice none 0 0) ⟨rfl, rfl⟩)
  have KD := Lib.hid (fun W (h : PB P w W (.slice A (nodesB s).length c) (.slice Ap (pathB s).length cp) (.slice Aa k.attrs.length ca) k) => (⟨cell_at h.hb 0, cell_at h.hb 1, cell_at h.ht 3⟩ : W.cell? ⟨w.heap.size, 0, none⟩ = some (.slice A (nodesB s).length c) ∧ W.cell? ⟨w.heap.size, 1, none⟩ = some (.slice Ap (pathB s).length cp) ∧ W.cell? ⟨w.heap.size + 1, 3, none⟩ = some (.string k.text)))
  go_region_held3 (fun W => W.cell? ⟨w.heap.size, 0, none⟩ = some (.slice A (nodesB s).length c) ∧ W.cell? ⟨w.heap.size, 1, none⟩ = some (.slice Ap (pathB s).length cp) ∧ W.cell? ⟨w.heap.size + 1, 3, none⟩ = some (.string k.text))
    (first | exact ⟨b0, b1, t3⟩ | exact KD.out _ hpd | exact KD.out _ hpb2 | exact ⟨(two_set _ _ (by omega)).trans (KD.out _ hpb2).1, (two_set _ _ (by omega)).trans (KD.out _ hpb2).2.1, (two_set _ _ (by omega)).trans (KD.out _ hpb2).2.2⟩)
    (first
      | (go_at_call 32; refine H5.out.mono ?_; rintro e w2 ⟨v2, rfl, ht2, hpb2⟩; obtain ⟨A7, c7, rfl, _⟩ := ht2.shape; have r0 : w2.cell? ⟨w.heap.size + 1 + 1, 0, none⟩ = some (.slice none 0 0) := cell_at hpb2.hr 0; have r1 : w2.cell? ⟨w.heap.size + 1 + 1, 1, none⟩ = some (.slice none 0 0) := cell_at hpb2.hr 1; have f0 := froz7 hpb2.hr 0; have f1 := froz7 hpb2.hr 1))
  have HPB2 := Lib.hid hpb2
  have HT2 := Lib.hid ht2
  clear hpb2 ht2 hpd
  go_wp2_with fail
  refine bodyPost_ret (v := .agg #[.slice A7 (nodesB (addTo s (textN k.text))).length c7, .slice Ap (pathB s).length cp]) ?_ rfl ?_
  · simp [results, Try.f23, go_sem, r0, r1]
  · rw [HR.out]
    exact HPB2.out.tell HT2.out (by rw [HPA.out]; exact (HPB2.out.came HB.out).2.1)

set_option maxHeartbeats 1000000 in
set_option maxRecDepth 100000 in
theorem putT_rem (P : Nat → Prop) (s : Bst) (k : Tk) (v va : Value) (w : World) (hPN : ∀ b, w.heap.size ≤ b → P b) (hB : BAt P w s v) (hat : AttrsAt (fun b => P b ∧ b < w.heap.size) w k.attrs va) (hsz : szB s + szK k ≤ 90000) (hkk : k.kind = 4) :
    Calls Try.prog 23 #[v, .agg #[.int .i64 k.kind, .string k.name, va, .string k.text]] w (PutTRet P (putB s k) w) := by
  obtain ⟨vL, vP, rfl, hT, hP⟩ := hB
  have HB := Lib.hid (And.intro hT (And.intro hP hat))
  obtain ⟨A, c, rfl, _⟩ := hT.shape
  obtain ⟨Ap, cp, rfl, _, _⟩ := id hP
  obtain ⟨Aa, ca, rfl, _, _⟩ := id hat
  have HST := Lib.hid (PB.start (P := P) w hPN (.slice A (nodesB s).length c) (.slice Ap (pathB s).length cp) (.slice Aa k.attrs.length ca) k)
  have HR := Lib.hid (show putB s k = addTo s (remN k.text) by unfold putB; rw [if_neg (by omega), if_neg (by omega), if_neg (by omega), if_pos hkk])
  have HZ := Lib.hid (show szN (remN k.text) ≤ szK k by rw [szN_eq]; unfold szK; show 10 + (tB []).size + k.text.size + 0 + szL [] ≤ _; rw [tB_size, szL_nil]; simp; omega)
  have HPA := Lib.hid (show pathB (addTo s (remN k.text)) = pathB s from path_add _ _)
  have B1 : (k.kind == 1) = false := by simp [hkk]
  have B2 : (k.kind == 2) = false := by simp [hkk]
  have B3 : (k.kind == 3) = false := by simp [hkk]
  have B4 : (k.kind == 4) = true := by simp [hkk]
  clear hT hP hat hkk
  go_enter Try.func23, Try.ntmps23
  go_wp2_with fail
  refine (put_open HB.out hsz _ HST.out).mono ?_
  rintro e w1 ⟨v5, rfl, ho, hpb⟩
  obtain ⟨A5, c5, rfl, _⟩ := own_size ho
  have b0 : w1.cell? ⟨w.heap.size, 0, none⟩ = some (.slice A (nodesB s).length c) := cell_at hpb.hb 0
  have b1 : w1.cell? ⟨w.heap.size, 1, none⟩ = some (.slice Ap (pathB s).length cp) := cell_at hpb.hb 1
  have t0 : w1.cell? ⟨w.heap.size + 1, 0, none⟩ = some (.int .i64 k.kind) := cell_at hpb.ht 0
  have t3 : w1.cell? ⟨w.heap.size + 1, 3, none⟩ = some (.string k.text) := cell_at hpb.ht 3
  have HPB := Lib.hid hpb
  clear ho hpb
  go_wp2_with fail
  have hpd : PB P w w1.drew (.slice A (nodesB s).length c) (.slice Ap (pathB s).length cp) (.slice Aa k.attrs.length ca) k := HPB.out.keep (Below.refl _ _).drew
  have H5 := Lib.hid (put_put HB.out hsz _ hpd (remN k.text) HZ.out rfl (.slice none 0 0) ⟨rfl, rfl⟩)
  have KD := Lib.hid (fun W (h : PB P w W (.slice A (nodesB s).length c) (.slice Ap (pathB s).length cp) (.slice Aa k.attrs.length ca) k) => (⟨cell_at h.hb 0, cell_at h.hb 1, cell_at h.ht 3⟩ : W.cell? ⟨w.heap.size, 0, none⟩ = some (.slice A (nodesB s).length c) ∧ W.cell? ⟨w.heap.size, 1, none⟩ = some (.slice Ap (pathB s).length cp) ∧ W.cell? ⟨w.heap.size + 1, 3, none⟩ = some (.string k.text)))
  go_region_held3 (fun W => W.cell? ⟨w.heap.size, 0, none⟩ = some (.slice A (nodesB s).length c) ∧ W.cell? ⟨w.heap.size, 1, none⟩ = some (.slice Ap (pathB s).length cp) ∧ W.cell? ⟨w.heap.size + 1, 3, none⟩ = some (.string k.text))
    (first | exact ⟨b0, b1, t3⟩ | exact KD.out _ hpd | exact KD.out _ hpb2 | exact ⟨(two_set _ _ (by omega)).trans (KD.out _ hpb2).1, (two_set _ _ (by omega)).trans (KD.out _ hpb2).2.1, (two_set _ _ (by omega)).trans (KD.out _ hpb2).2.2⟩)
    (first
      | (go_at_call 32; refine H5.out.mono ?_; rintro e w2 ⟨v2, rfl, ht2, hpb2⟩; obtain ⟨A7, c7, rfl, _⟩ := ht2.shape; have r0 : w2.cell? ⟨w.heap.size + 1 + 1, 0, none⟩ = some (.slice none 0 0) := cell_at hpb2.hr 0; have r1 : w2.cell? ⟨w.heap.size + 1 + 1, 1, none⟩ = some (.slice none 0 0) := cell_at hpb2.hr 1; have f0 := froz7 hpb2.hr 0; have f1 := froz7 hpb2.hr 1))
  have HPB2 := Lib.hid hpb2
  have HT2 := Lib.hid ht2
  clear hpb2 ht2 hpd
  go_wp2_with fail
  refine bodyPost_ret (v := .agg #[.slice A7 (nodesB (addTo s (remN k.text))).length c7, .slice Ap (pathB s).length cp]) ?_ rfl ?_
  · simp [results, Try.f23, go_sem, r0, r1]
  · rw [HR.out]
    exact HPB2.out.tell HT2.out (by rw [HPA.out]; exact (HPB2.out.came HB.out).2.1)

set_option maxHeartbeats 1000000 in
set_option maxRecDepth 100000 in
theorem putT_else (P : Nat → Prop) (s : Bst) (k : Tk) (v va : Value) (w : World) (hPN : ∀ b, w.heap.size ≤ b → P b) (hB : BAt P w s v) (hat : AttrsAt (fun b => P b ∧ b < w.heap.size) w k.attrs va) (hsz : szB s + szK k ≤ 90000) (h1 : k.kind ≠ 1) (h2 : k.kind ≠ 2) (h3 : k.kind ≠ 3) (h4 : k.kind ≠ 4) :
    Calls Try.prog 23 #[v, .agg #[.int .i64 k.kind, .string k.name, va, .string k.text]] w (PutTRet P (putB s k) w) := by
  obtain ⟨vL, vP, rfl, hT, hP⟩ := hB
  have HB := Lib.hid (And.intro hT (And.intro hP hat))
  obtain ⟨A, c, rfl, _⟩ := hT.shape
  obtain ⟨Ap, cp, rfl, hcp, _⟩ := id hP
  obtain ⟨Aa, ca, rfl, _, _⟩ := id hat
  have HST := Lib.hid (PB.start (P := P) w hPN (.slice A (nodesB s).length c) (.slice Ap (pathB s).length cp) (.slice Aa k.attrs.length ca) k)
  have HR := Lib.hid (show putB s k = s by unfold putB; rw [if_neg h1, if_neg h2, if_neg h3, if_neg h4])
  have B1 : (k.kind == 1) = false := by simp [h1]
  have B2 : (k.kind == 2) = false := by simp [h2]
  have B3 : (k.kind == 3) = false := by simp [h3]
  have B4 : (k.kind == 4) = false := by simp [h4]
  clear hT hP hat h1 h2 h3 h4
  go_enter Try.func23, Try.ntmps23
  go_wp2_with fail
  refine (put_open HB.out hsz _ HST.out).mono ?_
  rintro e w1 ⟨v5, rfl, ho, hpb⟩
  obtain ⟨A5, c5, rfl, hc5⟩ := own_size ho
  have b0 : w1.cell? ⟨w.heap.size, 0, none⟩ = some (.slice A (nodesB s).length c) := cell_at hpb.hb 0
  have b1 : w1.cell? ⟨w.heap.size, 1, none⟩ = some (.slice Ap (pathB s).length cp) := cell_at hpb.hb 1
  have t0 : w1.cell? ⟨w.heap.size + 1, 0, none⟩ = some (.int .i64 k.kind) := cell_at hpb.ht 0
  have t1 : w1.cell? ⟨w.heap.size + 1, 1, none⟩ = some (.string k.name) := cell_at hpb.ht 1
  have r0 : w1.cell? ⟨w.heap.size + 1 + 1, 0, none⟩ = some (.slice none 0 0) := cell_at hpb.hr 0
  have r1 : w1.cell? ⟨w.heap.size + 1 + 1, 1, none⟩ = some (.slice none 0 0) := cell_at hpb.hr 1
  have f0 := froz7 hpb.hr 0
  have f1 := froz7 hpb.hr 1
  have HPB := Lib.hid hpb
  clear ho hpb
  go_wp2_with fail
  refine bodyPost_ret (v := .agg #[.slice A (nodesB s).length c, .slice Ap (pathB s).length cp]) ?_ rfl ?_
  · simp [results, Try.f23, go_sem, r0, r1]
  · rw [HR.out]
    exact HPB.out.tell (HPB.out.came HB.out).1 (HPB.out.came HB.out).2.1

theorem PathAt.take {S : Nat → Prop} {w : World} {Q : List Nat} {A : Option Addr} {n c : Nat} (h : PathAt S w Q (.slice A n c)) (m : Nat) (hm : m ≤ Q.length) : PathAt S w (Q.take m) (.slice A m c) := by
  obtain ⟨A', c', h1, h2, h3⟩ := h
  injection h1 with e1 e2 e3
  subst e1
  subst e3
  refine ⟨A, c, by rw [List.length_take, Nat.min_eq_left hm], by rw [List.length_take]; omega, fun h0 => ?_⟩
  rw [List.length_map, List.length_take] at h0
  obtain ⟨b, o, hA, hS, hc⟩ := h3 (by rw [List.length_map]; omega)
  refine ⟨b, o, hA, hS, fun j u hu => hc j u ?_⟩
  rw [List.getElem?_map] at hu ⊢
  rw [List.getElem?_take] at hu
  split at hu
  · exact hu
  · cases hu

/-- The element j from the outermost, as an open name. -/
theorem name_at (s : Bst) {q : Nat} (hq : q < s.fs.length) : ∃ f, s.fs[s.fs.length - 1 - q]? = some f ∧ ((s.fs.reverse.map Fr.name).map Value.string)[q]? = some (.string f.name) := by
  obtain ⟨f, hf⟩ : ∃ f, s.fs[s.fs.length - 1 - q]? = some f := ⟨_, List.getElem?_eq_getElem (by omega)⟩
  refine ⟨f, hf, ?_⟩
  rw [List.getElem?_map, List.getElem?_map, List.getElem?_reverse hq, hf]
  rfl
def EndRel (w1 : World) (s : Bst) (k : Tk) (x : Value) (wr : World) : Prop :=
  ∃ (j : Nat) (z : Int), x = .int .i64 z ∧ z = (j : Int) - 1 ∧ j ≤ s.fs.length ∧ (∀ q f, q < s.fs.length - j → s.fs[q]? = some f → notNamed k.name f = true) ∧ Below w1.heap.size w1 wr

theorem end_none {s : Bst} {k : Tk} (hk : k.kind = 2) (h : ∀ q f, q < s.fs.length → s.fs[q]? = some f → notNamed k.name f = true) : putB s k = s := by
  unfold putB
  rw [if_neg (by omega), if_pos hk, if_pos]
  rw [List.all_eq_true]
  intro f hf
  obtain ⟨q, hq, he⟩ := List.mem_iff_getElem.1 hf
  exact h q f hq (by rw [List.getElem?_eq_getElem hq, he])
theorem end_some {s : Bst} {k : Tk} {q : Nat} {f : Fr} (hk : k.kind = 2) (h : ∀ q' f, q' < s.fs.length - (q + 1) → s.fs[q']? = some f → notNamed k.name f = true) (hq : q < s.fs.length) (hf : s.fs[s.fs.length - 1 - q]? = some f) (hn : f.name = k.name) :
    nodesB (putB s k) = nodesB s ∧ pathB (putB s k) = (pathB s).take q := by
  have hx : notNamed k.name f = false := by unfold notNamed; rw [hn]; simp
  have ht : (s.fs.takeWhile (notNamed k.name)).length = s.fs.length - 1 - q := tw_count _ _ _ (by omega) (fun i x hi hx => h i x (by omega) hx) (fun x hx' => by rw [hf] at hx'; injection hx' with e; rw [← e]; exact hx)
  have he : putB s k = popN (s.fs.length - 1 - q + 1) s := by
    unfold putB
    rw [if_neg (by omega), if_pos hk, if_neg, ht]
    intro hall
    rw [List.all_eq_true] at hall
    rw [hall f (List.mem_of_getElem? hf)] at hx
    cases hx
  rw [he]
  refine ⟨nodes_popN _ _, ?_⟩
  rw [path_popN]
  congr 1
  omega

set_option maxHeartbeats 1000000 in
set_option maxRecDepth 100000 in
theorem putT_end (P : Nat → Prop) (s : Bst) (k : Tk) (v va : Value) (w : World) (hPN : ∀ b, w.heap.size ≤ b → P b) (hB : BAt P w s v) (hat : AttrsAt (fun b => P b ∧ b < w.heap.size) w k.attrs va) (hsz : szB s + szK k ≤ 90000) (hkk : k.kind = 2) :
    Calls Try.prog 23 #[v, .agg #[.int .i64 k.kind, .string k.name, va, .string k.text]] w (PutTRet P (putB s k) w) := by
  obtain ⟨vL, vP, rfl, hT, hP⟩ := hB
  have HB := Lib.hid (And.intro hT (And.intro hP hat))
  obtain ⟨A, c, rfl, _⟩ := hT.shape
  obtain ⟨Ap, cp, rfl, hcp, _⟩ := id hP
  obtain ⟨Aa, ca, rfl, _, _⟩ := id hat
  have HST := Lib.hid (PB.start (P := P) w hPN (.slice A (nodesB s).length c) (.slice Ap (pathB s).length cp) (.slice Aa k.attrs.length ca) k)
  have B1 : (k.kind == 1) = false := by simp [hkk]
  have B2 : (k.kind == 2) = true := by simp [hkk]
  have B3 : (k.kind == 3) = false := by simp [hkk]
  have B4 : (k.kind == 4) = false := by simp [hkk]
  have HKK := Lib.hid hkk
  have HPL := Lib.hid (pathB_len s)
  have hfl : 10 * s.fs.length ≤ szB s := by have := fs_len s.fs; unfold szB; omega
  rw [pathB_len] at hcp
  clear hT hP hat hkk
  go_enter Try.func23, Try.ntmps23
  go_wp2_with fail
  refine (put_open HB.out hsz _ HST.out).mono ?_
  rintro e w1 ⟨v5, rfl, ho, hpb⟩
  obtain ⟨A5, c5, rfl, hc5⟩ := own_size ho
  have b0 : w1.cell? ⟨w.heap.size, 0, none⟩ = some (.slice A (nodesB s).length c) := cell_at hpb.hb 0
  have b1 : w1.cell? ⟨w.heap.size, 1, none⟩ = some (.slice Ap (pathB s).length cp) := cell_at hpb.hb 1
  have t0 : w1.cell? ⟨w.heap.size + 1, 0, none⟩ = some (.int .i64 k.kind) := cell_at hpb.ht 0
  have t1 : w1.cell? ⟨w.heap.size + 1, 1, none⟩ = some (.string k.name) := cell_at hpb.ht 1
  have r0 : w1.cell? ⟨w.heap.size + 1 + 1, 0, none⟩ = some (.slice none 0 0) := cell_at hpb.hr 0
  have r1 : w1.cell? ⟨w.heap.size + 1 + 1, 1, none⟩ = some (.slice none 0 0) := cell_at hpb.hr 1
  have f0 := froz7 hpb.hr 0
  have f1 := froz7 hpb.hr 1
  have HPB := Lib.hid hpb
  have HO := Lib.hid (Cells.own ho)
  clear ho hpb
  go_wp2_with fail
  go_loopw [12] (fun x wr => EndRel w1 s k x wr) (fun x _ => (intOf x + 1).toNat)
  case atStart => exact ⟨s.fs.length, _, rfl, by go_num, Nat.le_refl _, fun q f h => by omega, Below.refl _ _⟩
  case round =>
    obtain ⟨j, z, rfl, rfl, hj, hall, hbr⟩ := hrel
    have hpr := HPB.out.keep hbr
    have b0' : wr.cell? ⟨w.heap.size, 0, none⟩ = some (.slice A (nodesB s).length c) := cell_at hpr.hb 0
    have b1' : wr.cell? ⟨w.heap.size, 1, none⟩ = some (.slice Ap (pathB s).length cp) := cell_at hpr.hb 1
    have t1' : wr.cell? ⟨w.heap.size + 1, 1, none⟩ = some (.string k.name) := cell_at hpr.ht 1
    have r0' : wr.cell? ⟨w.heap.size + 1 + 1, 0, none⟩ = some (.slice none 0 0) := cell_at hpr.hr 0
    have r1' : wr.cell? ⟨w.heap.size + 1 + 1, 1, none⟩ = some (.slice none 0 0) := cell_at hpr.hr 1
    have f0' := froz7 hpr.hr 0
    have f1' := froz7 hpr.hr 1
    have HPR := Lib.hid hpr
    have HALL := Lib.hid hall
    rw [HPL.out] at b1'
    clear hpr hall b0 b1 t0 t1 r0 r1 f0 f1
    cases j with
    | zero =>
      have HE := Lib.hid (end_none HKK.out fun q f hq => HALL.out q f (by omega))
      have e1 : ¬ ((0 : Int) ≤ ((0 : Nat) : Int) - 1) := by omega
      rw [show (((0 : Nat) : Int) - 1) = -1 from rfl]
      go_wp2_with fail
      refine bodyPost_ret (v := .agg #[.slice A (nodesB s).length c, .slice Ap s.fs.length cp]) ?_ rfl ?_
      · simp [results, Try.f23, go_sem, r0', r1']
      · rw [HE.out]
        have := HPR.out.tell (HPR.out.came HB.out).1 (HPR.out.came HB.out).2.1
        rw [HPL.out] at this
        exact this
    | succ q =>
      have hq : q < s.fs.length := by omega
      rw [show (((q + 1 : Nat) : Int) - 1) = (q : Int) by omega]
      obtain ⟨f, hf, hnm⟩ := name_at s hq
      obtain ⟨b5, o5, rfl, hb5, hc5'⟩ := HO.out (by rw [List.length_map, List.length_map, List.length_reverse]; omega)
      have g1 : wr.cell? ⟨b5, o5 + q, none⟩ = some (.string f.name) := (hbr.cell (p := ⟨b5, o5 + q, none⟩) (World.block_lt_of_cell? w1 ⟨b5, o5 + q, none⟩ (hc5' q _ hnm))).trans (hc5' q _ hnm)
      have i1 : (q : Int) < (s.fs.length : Int) := by omega
      have i2 : (0 : Int) ≤ (q : Int) := by omega
      have HF := Lib.hid hf
      have HNQ := Lib.hid hnm
      clear hc5' hf hnm
      have mixed : Try.prog.follows Departure.mixedOrders = true := by kernel_rfl
      by_cases hn : f.name = k.name
      · have BN : (f.name.toList == k.name.toList) = true := by rw [str_eq]; simp [hn]
        have HN := Lib.hid hn
        clear hn
        go_wp2_with fail
        go_region
        go_wp2_with fail
        have i3 : (q : Int) ≤ (cp : Int) := by omega
        have i4 : q ≤ cp := by omega
        go_region
        go_wp2_with fail
        refine bodyPost_ret (v := .agg #[.slice A (nodesB s).length c, .slice Ap q cp]) ?_ rfl ?_
        · simp [results, Try.f23, go_sem, r0', r1']
        · have he := end_some HKK.out (fun q' f' h1 h2 => HALL.out q' f' h1 h2) hq HF.out HN.out
          have hpp := HPR.out.keep (below_after (Below.refl _ wr).drew (Below.refl _ _).drew)
          refine (hpp.tell (s := putB s k) (by rw [he.1]; exact (hpp.came HB.out).1) ?_)
          rw [he.2]
          exact PathAt.take (hpp.came HB.out).2.1 q (by rw [HPL.out]; omega)
      · have BN : (f.name.toList == k.name.toList) = false := by rw [str_eq]; simp [hn]
        have HN := Lib.hid hn
        clear hn
        go_wp2_with fail
        go_region
        go_wp2_with fail
        go_roundw
        case rel =>
          refine ⟨q, _, by go_num, rfl, by omega, fun q' f' hq' hf' => ?_, hbr.drew⟩
          by_cases h : q' = s.fs.length - 1 - q
          · subst h
            have := HF.out
            rw [hf'] at this
            injection this with e
            subst e
            unfold notNamed
            rw [decide_eq_false HN.out]
            rfl
          · exact HALL.out q' f' (by omega) hf'
        case measure => simp [intOf]

end Go.Proofs.Ytfdgmoakobjohaa

/- Part Ptb7. -/
namespace Go.Proofs.Ytfdgmoakobjohaa
open Go.RowKit
set_option linter.unusedVariables false

theorem info_int7 : (Try.prog.info? 3).map (fun i => (i.zero, i.size, i.bytes)) = some (some (.int .i64 0), 1, 8) := by kernel_rfl
def pv (k : Nat) : Value := .int .i64 (k : Int)
/-- A path of the call's own. -/
def OwnI (w : World) (base : Nat) (Q : List Nat) (v : Value) : Prop := w.ownsRow base 3 1 v Q.length (Q.map pv)
theorem OwnI.nil (w : World) (base : Nat) : OwnI w base [] (.slice none 0 0) := World.ownsRow_nil _ _ _ _
theorem OwnI.path {w : World} {base : Nat} {Q : List Nat} {v : Value} (h : OwnI w base Q v) : PathAt (fun b => base ≤ b ∧ b < w.heap.size) w Q v := by
  obtain ⟨A, c, rfl, hc⟩ := own_size h
  exact ⟨A, c, rfl, hc, (Cells.own h).mono fun b hb => World.ownsRow.lt h b hb⟩

/-- A path more behind it. -/
theorem wpList_append_path {w : World} {ops : Array Oper} {rest : List Oper} {o : Oper} {a : Act} {Q : Exit → Act → World → Prop} (hgd : o.guard = none) (s x : Operand)
    (ho : o.op = .call { callee := .builtin .append, args := #[s, x], argTypes := #[62, 62] })
    (base : Nat) (l : List Nat) (v : Value) (hs : a.eval s = v) (h : OwnI w base l v) (S : Nat → Prop) (m : List Nat) (vx : Value) (hx : a.eval x = vx) (hm : PathAt S w m vx)
    (hlen : l.length + m.length ≤ 1000000) (hbase : base ≤ w.heap.size)
    (hK : ∀ v' w', OwnI w' base (l ++ m) v' → w.grownBy w' v.ownBlock → wpList Try.prog ops Q rest (a.put o.dst v') w') :
    wpList Try.prog ops Q (o :: rest) a w := by
  refine wpList_plain hgd fun K hK' => ?_
  obtain ⟨i0, hi, hz0, hz1, hz2⟩ := info_parts info_int7
  obtain ⟨A, c, rfl, hc, hcell⟩ := hm
  by_cases h0 : m = []
  · subst h0
    have hrun := run_append_zero (w := w) base 62 o.type 3 i0 1 Try.underlying62 hi v l.length (l.map pv) h A c
    have hx' : a.eval x = .slice A 0 c := hx
    unfold Oper.wp
    simp [execOp, ho, resolve, invoke, builtin, hs, hx', hrun, Result.andThen]
    refine hK' _ _ (hK v w ?_ ⟨rfl, rfl, rfl, Nat.le_refl _, fun _ _ _ => rfl⟩)
    simpa using h
  · have hM : 0 < m.length := List.length_pos_iff.2 h0
    obtain ⟨b, o', rfl, hS, hcl⟩ := hcell (by rw [List.length_map]; exact hM)
    have h1 : ∀ u ∈ m.map pv, u.oneCell' = true := by
      intro u hu
      obtain ⟨k, _, rfl⟩ := List.mem_map.1 hu
      rfl
    obtain ⟨v', w', hrun, own', hgr, hnew⟩ := run_append_new (w := w) base 62 o.type 3 i0 _ 1 8 Try.underlying62 hi hz0 hz1 hz2 rfl (by decide) v l.length (l.map pv) h ⟨b, o', none⟩ m.length c (m.map pv) (by rw [List.length_map, Nat.mul_one])
      (fun j u hj => by have h9 := hcl j u hj; rw [add_addr]; exact h9) h1 (by unfold maxLen; omega) (by omega) hbase
    unfold Oper.wp
    simp [execOp, ho, resolve, invoke, builtin, hs, hx, hrun, Result.andThen]
    refine hK' _ _ (hK v' w' ?_ hgr)
    unfold OwnI
    rw [List.length_append, List.map_append]
    exact own'

def BegRel (w1 : World) (s : Bst) (k : Tk) (x : Value) (wr : World) : Prop :=
  ∃ m : Nat, x = .int .i64 m ∧ m ≤ s.fs.length ∧ (∀ q f, q < s.fs.length - m → s.fs[q]? = some f → shutBy k.name.data.toList f = true) ∧ Below w1.heap.size w1 wr
def nodeK (k : Tk) : Nd := .mk 1 k.name k.attrs (tB []) []
/-- What is there when no more is closed. -/
structure BegAt (s : Bst) (k : Tk) (m : Nat) (s' : Bst) : Prop where
  pa : pathB s' = (pathB s).take m
  no : nodesB s' = nodesB s
  vo : voidB k.name.data.toList = true → nodesB (putB s k) = updL (pathB s') (mstep · (nodeK k)) (nodesB s') ∧ pathB (putB s k) = pathB s'
  el : voidB k.name.data.toList = false → nodesB (putB s k) = updL (pathB s') (mstep · (nodeK k)) (nodesB s') ∧ pathB (putB s k) = pathB s' ++ [(endL (pathB s') (nodesB s')).length]
theorem begAt_of {s : Bst} {k : Tk} {m : Nat} (hk : k.kind = 1) (hm : m ≤ s.fs.length) (h : ∀ q f, q < s.fs.length - m → s.fs[q]? = some f → shutBy k.name.data.toList f = true)
    (hs : ∀ f, s.fs[s.fs.length - m]? = some f → shutBy k.name.data.toList f = false) : ∃ s', BegAt s k m s' := by
  have ht := tw_count (shutBy k.name.data.toList) s.fs (s.fs.length - m) (by omega) h hs
  refine ⟨popN (s.fs.length - m) s, ?_, nodes_popN _ _, fun hv => ?_, fun hv => ?_⟩
  · rw [path_popN]
    congr 1
    omega
  · unfold putB
    rw [if_pos hk, ht]
    dsimp only
    rw [if_pos hv]
    exact ⟨nodes_add _ _, path_add _ _⟩
  · unfold putB
    rw [if_pos hk, ht]
    dsimp only
    rw [if_neg (by rw [hv]; decide)]
    exact ⟨nodes_new _ _ _, path_new _ _ _⟩

/-- The rest of it, call by call. -/
theorem beg_count {P : Nat → Prop} {w : World} {s s' : Bst} {m : Nat} {vL va : Value} {Ap : Option Addr} {cp : Nat} {k : Tk} (hB : Tree (fun b => P b ∧ b < w.heap.size) w (nodesB s) vL ∧ PathAt (fun b => P b ∧ b < w.heap.size) w (pathB s) (.slice Ap (pathB s).length cp) ∧ AttrsAt (fun b => P b ∧ b < w.heap.size) w k.attrs va) (hsz : szB s + szK k ≤ 90000) (W : World) (h : PB P w W vL (.slice Ap (pathB s).length cp) va k)
    (hm : m ≤ s.fs.length) (hb : BegAt s k m s') :
    Calls Try.prog 31 #[vL, .slice Ap m cp] W fun e w1 => e = .returned (.int .i64 (endL (pathB s') (nodesB s')).length) ∧ PB P w w1 vL (.slice Ap (pathB s).length cp) va k := by
  have hc := h.came hB
  have hnz := nodes_sz s
  have hfl : 10 * s.fs.length ≤ szB s := by have := fs_len s.fs; unfold szB; omega
  have hp := PathAt.take hc.2.1 m (by rw [pathB_len]; exact hm)
  rw [← hb.pa] at hp
  have hok := ok_of s'
  refine (count7_any (nodesB s') (pathB s') vL (.slice Ap m cp) W (by rw [hb.no]; exact hc.1.mono fun b h => h.2) (hp.go (fun b h j => rfl) fun b h => h.2) hok (by rw [hb.no]; omega) (by rw [hb.pa, List.length_take, pathB_len]; omega)).mono ?_
  rintro e w1 ⟨rfl, hb1⟩
  exact ⟨rfl, h.keep hb1⟩
theorem beg_put {P : Nat → Prop} {w : World} {s s' : Bst} {m : Nat} {vL va : Value} {Ap : Option Addr} {cp : Nat} {k : Tk} (hB : Tree (fun b => P b ∧ b < w.heap.size) w (nodesB s) vL ∧ PathAt (fun b => P b ∧ b < w.heap.size) w (pathB s) (.slice Ap (pathB s).length cp) ∧ AttrsAt (fun b => P b ∧ b < w.heap.size) w k.attrs va) (hsz : szB s + szK k ≤ 90000) (W : World) (h : PB P w W vL (.slice Ap (pathB s).length cp) va k)
    (hm : m ≤ s.fs.length) (hb : BegAt s k m s') :
    Calls Try.prog 32 #[vL, .slice Ap m cp, .agg #[.int .i64 1, .string k.name, va, .string ⟨#[]⟩, .slice none 0 0]] W fun e w1 =>
      ∃ v', e = .returned v' ∧ Tree (fun b => (P b ∧ b ≠ w.heap.size + 1 + 1) ∧ b < w1.heap.size) w1 (updL (pathB s') (mstep · (nodeK k)) (nodesB s')) v' ∧ PB P w w1 vL (.slice Ap (pathB s).length cp) va k := by
  have hc := h.came hB
  have hnz := nodes_sz s
  have hp := PathAt.take hc.2.1 m (by rw [pathB_len]; exact hm)
  rw [← hb.pa] at hp
  have hzn : szN (nodeK k) ≤ szK k := by
    rw [szN_eq]
    unfold szK
    show 10 + k.name.size + (tB []).size + szA k.attrs + szL [] ≤ _
    rw [tB_size, szL_nil]
    simp
    try omega
  refine (put7_any (nodeK k) (pathB s') (fun b => P b ∧ b ≠ w.heap.size + 1 + 1) (nodesB s') vL (.slice Ap m cp) va (.slice none 0 0) W (fun b hb => ⟨h.new b (by have := h.siz; omega), by have := h.siz; omega⟩) (by rw [hb.no]; exact hc.1) (hp.go (fun b h j => rfl) fun b h => h.2) (ok_of s') hc.2.2 (Tree.nil _ _) (by rw [hb.no]; omega)).mono ?_
  rintro e w1 ⟨v', rfl, ht, hb1⟩
  exact ⟨v', rfl, ht, h.keep hb1⟩

theorem beg_tell {P : Nat → Prop} {w w3 W : World} {vL vP va v3 v4 : Value} {k : Tk} {s : Bst} {L2 : List Nd} {P2 : List Nat} (hp : PB P w W vL vP va k) (hb : Below w3.heap.size w3 W) (h3 : w.heap.size + 3 ≤ w3.heap.size) (ht : Tree (fun b => (P b ∧ b ≠ w.heap.size + 1 + 1) ∧ b < w3.heap.size) w3 L2 v3) (ho : OwnI W w3.heap.size P2 v4) (hn : nodesB (putB s k) = L2) (hq : pathB (putB s k) = P2) :
    PutTRet P (putB s k) w (.returned (.agg #[v3, v4])) ((W.setCell ⟨w.heap.size + 1 + 1, 0, none⟩ v3).setCell ⟨w.heap.size + 1 + 1, 1, none⟩ v4) := by
  refine hp.tell ?_ ?_
  · rw [hn]
    exact (ht.keep (Kept.belowB hb fun b h => h.2)).mono fun b h => ⟨h.1, Nat.lt_of_lt_of_le h.2 hb.size⟩
  · rw [hq]
    exact ho.path.go (fun b h j => rfl) fun b h => ⟨⟨hp.new b (by omega), by omega⟩, h.2⟩
theorem one_path {S : Nat → Prop} {W : World} {b n : Nat} {t : TypeId} (h : W.heap[b]? = some (.cells #[.int .i64 (n : Int)] t (0, 0))) (hS : S b) : PathAt S W [n] (.slice (some ⟨b, 0, none⟩) 1 1) :=
  ⟨_, 1, rfl, Nat.le_refl _, cells_here h hS _ rfl⟩

set_option maxHeartbeats 800000 in
set_option maxRecDepth 100000 in
theorem putT_begin (P : Nat → Prop) (s : Bst) (k : Tk) (v va : Value) (w : World) (hPN : ∀ b, w.heap.size ≤ b → P b) (hB : BAt P w s v) (hat : AttrsAt (fun b => P b ∧ b < w.heap.size) w k.attrs va) (hsz : szB s + szK k ≤ 90000) (hkk : k.kind = 1) :
    Calls Try.prog 23 #[v, .agg #[.int .i64 k.kind, .string k.name, va, .string k.text]] w (PutTRet P (putB s k) w) := by
  obtain ⟨vL, vP, rfl, hT, hP⟩ := hB
  have HB := Lib.hid (And.intro hT (And.intro hP hat))
  obtain ⟨A, c, rfl, _⟩ := hT.shape
  obtain ⟨Ap, cp, rfl, hcp, _⟩ := id hP
  obtain ⟨Aa, ca, rfl, _, _⟩ := id hat
  have HST := Lib.hid (PB.start (P := P) w hPN (.slice A (nodesB s).length c) (.slice Ap (pathB s).length cp) (.slice Aa k.attrs.length ca) k)
  have B1 : (k.kind == 1) = true := by simp [hkk]
  have HKK := Lib.hid hkk
  have HPL := Lib.hid (pathB_len s)
  have hfl : 10 * s.fs.length ≤ szB s := by have := fs_len s.fs; unfold szB; omega
  rw [pathB_len] at hcp
  clear hT hP hat hkk
  go_enter Try.func23, Try.ntmps23
  go_wp2_with fail
  refine (put_open HB.out hsz _ HST.out).mono ?_
  rintro e w1 ⟨v5, rfl, ho, hpb⟩
  obtain ⟨A5, c5, rfl, hc5⟩ := own_size ho
  have t0 : w1.cell? ⟨w.heap.size + 1, 0, none⟩ = some (.int .i64 k.kind) := cell_at hpb.ht 0
  have HPB := Lib.hid hpb
  have HO := Lib.hid (Cells.own ho)
  have hw1 := hpb.siz
  clear ho hpb
  go_wp2_with fail
  go_loopw [6] (fun x wr => BegRel w1 s k x wr) (fun x _ => (intOf x).toNat)
  case atStart => exact ⟨s.fs.length, rfl, Nat.le_refl _, fun q f h => by omega, Below.refl _ _⟩
  case round =>
    obtain ⟨m, rfl, hm, hall, hbr⟩ := hrel
    have hpr := HPB.out.keep hbr
    have HPR := Lib.hid hpr
    have HALL := Lib.hid hall
    have hwz := hbr.size
    clear hall
    have mixed : Try.prog.follows Departure.mixedOrders = true := by kernel_rfl
    have wdr : Below wr.heap.size wr wr.drew := (Below.refl _ _).drew
    rcases Nat.eq_zero_or_pos m with hm0 | hm0
    · obtain ⟨s', hba⟩ := begAt_of HKK.out hm HALL.out (fun f hf => by rw [hm0, Nat.sub_zero, List.getElem?_eq_none (Nat.le_refl _)] at hf; cases hf)
      have t1' : wr.cell? ⟨w.heap.size + 1, 1, none⟩ = some (.string k.name) := cell_at hpr.ht 1
      have hpz := hpr.keep wdr
      subst hm0
      have HBA := Lib.hid hba
      clear hba
      go_wp2_with fail
      go_region
      generalize wr.drew = wz at hpz ⊢
      have i9 : ((0 : Nat) : Int) ≤ (cp : Int) := by omega
      have i8 : 0 ≤ cp := by omega
      have i7 : (0 : Int) ≤ ((0 : Nat) : Int) := by omega
      have b1z : wz.cell? ⟨w.heap.size, 1, none⟩ = some (.slice Ap s.fs.length cp) := (cell_at hpz.hb 1).trans (by rw [← HPL.out]; rfl)
      have b0z : wz.cell? ⟨w.heap.size, 0, none⟩ = some (.slice A (nodesB s).length c) := cell_at hpz.hb 0
      have t1z : wz.cell? ⟨w.heap.size + 1, 1, none⟩ = some (.string k.name) := cell_at hpz.ht 1
      have t2z : wz.cell? ⟨w.heap.size + 1, 2, none⟩ = some (.slice Aa k.attrs.length ca) := cell_at hpz.ht 2
      go_wp2_with fail
      refine (beg_count HB.out hsz _ hpz hm HBA.out).mono ?_
      rintro e w2 ⟨rfl, hp2⟩
      have b0y : w2.cell? ⟨w.heap.size, 0, none⟩ = some (.slice A (nodesB s).length c) := cell_at hp2.hb 0
      have t1y : w2.cell? ⟨w.heap.size + 1, 1, none⟩ = some (.string k.name) := cell_at hp2.ht 1
      have t2y : w2.cell? ⟨w.heap.size + 1, 2, none⟩ = some (.slice Aa k.attrs.length ca) := cell_at hp2.ht 2
      go_wp2_with fail
      refine (beg_put HB.out hsz _ hp2 hm HBA.out).mono ?_
      rintro e w3 ⟨v3, rfl, ht3, hp3⟩
      obtain ⟨A3, c3, rfl, _⟩ := ht3.shape
      have b0x : w3.cell? ⟨w.heap.size, 0, none⟩ = some (.slice A (nodesB s).length c) := cell_at hp3.hb 0
      have t1x : w3.cell? ⟨w.heap.size + 1, 1, none⟩ = some (.string k.name) := cell_at hp3.ht 1
      have t2x : w3.cell? ⟨w.heap.size + 1, 2, none⟩ = some (.slice Aa k.attrs.length ca) := cell_at hp3.ht 2
      have HPM := Lib.hid (show PathAt (fun b => (P b ∧ b ≠ w.heap.size + 1 + 1) ∧ b < w3.heap.size) w3 (pathB s') (.slice Ap 0 cp) by rw [HBA.out.pa]; exact PathAt.take (hp3.came HB.out).2.1 0 (by rw [pathB_len]; exact hm))
      have hlp : (pathB s').length ≤ 100000 := by rw [HBA.out.pa, List.length_take, pathB_len]; omega
      have h33 := hp3.siz
      have HP3 := Lib.hid hp3
      have HT3 := Lib.hid ht3
      clear hp3 ht3 hp2
      go_wp2_with (at_builtin; refine wpList_append_path rfl _ _ rfl w3.heap.size [] _ rfl (OwnI.nil _ _) _ (pathB s') _ rfl HPM.out (by simp; omega) (Nat.le_refl _) ?_; intro v4 w4 hown4 hg4; rw [List.nil_append] at hown4; have hb4 : Below w3.heap.size w3 w4 := (Below.refl _ w3).grown hg4 (Nat.le_refl _) (fun g hg => by cases hg); have HP4 := Lib.hid (HP3.out.keep hb4); have t14 : w4.cell? ⟨w.heap.size + 1, 1, none⟩ = some (.string k.name) := cell_at HP4.out.ht 1; have HOW4 := Lib.hid hown4; obtain ⟨A4, c4, rfl, _⟩ := own_size hown4; clear hown4 hg4)
      refine (voidR_any k.name w4).mono ?_
      rintro e w5 ⟨rfl, rfl⟩
      have hz4 := hb4.size
      obtain ⟨vb, hvb⟩ : ∃ vb, voidB k.name.data.toList = vb := ⟨_, rfl⟩
      rw [hvb]
      cases vb with
      | true =>
        have HV := Lib.hid (HBA.out.vo hvb)
        clear hvb
        have r0 : w4.cell? ⟨w.heap.size + 1 + 1, 0, none⟩ = some (.slice none 0 0) := cell_at HP4.out.hr 0
        have r1 : w4.cell? ⟨w.heap.size + 1 + 1, 1, none⟩ = some (.slice none 0 0) := cell_at HP4.out.hr 1
        have f0 := froz7 HP4.out.hr 0
        have f1 := froz7 HP4.out.hr 1
        go_wp2_with fail
        refine bodyPost_ret (v := .agg #[.slice A3 (updL (pathB s') (mstep · (nodeK k)) (nodesB s')).length c3, .slice A4 (pathB s').length c4]) ?_ rfl ?_
        · simp [results, Try.f23, go_sem, r0, r1]
        · exact beg_tell HP4.out hb4 h33 HT3.out HOW4.out HV.out.1 HV.out.2
      | false =>
        have HV := Lib.hid (HBA.out.el hvb)
        clear hvb
        go_wp2_with (at_builtin; refine wpList_append_path rfl _ _ rfl w3.heap.size (pathB s') _ rfl (own_below HOW4.out (below_new _ _)) (fun _ => True) [(endL (pathB s') (nodesB s')).length] _ rfl (one_path (alloc_here' rfl) trivial) (by show _ + 1 ≤ _; omega) (by rw [World.size_alloc]; omega) ?_; intro v6 w6 hown6 hg6; have hb6 : Below w3.heap.size w3 w6 := (hb4.alloc hz4 _).grown hg6 (by rw [World.size_alloc]; omega) (fun g hg => (World.ownsRow.lt HOW4.out g hg).1); have HP6 := Lib.hid (HP3.out.keep hb6); have r0 : w6.cell? ⟨w.heap.size + 1 + 1, 0, none⟩ = some (.slice none 0 0) := cell_at HP6.out.hr 0; have r1 : w6.cell? ⟨w.heap.size + 1 + 1, 1, none⟩ = some (.slice none 0 0) := cell_at HP6.out.hr 1; have f0 := froz7 HP6.out.hr 0; have f1 := froz7 HP6.out.hr 1; have HOW6 := Lib.hid hown6; obtain ⟨A6, c6, rfl, _⟩ := own_size hown6; clear hown6 hg6)
        refine bodyPost_ret (v := .agg #[.slice A3 (updL (pathB s') (mstep · (nodeK k)) (nodesB s')).length c3, .slice A6 ((pathB s').length + 1) c6]) ?_ rfl ?_
        · simp [results, Try.f23, go_sem, r0, r1]
        · have hfin := beg_tell HP6.out hb6 h33 HT3.out HOW6.out HV.out.1 HV.out.2
          rw [List.length_append] at hfin
          exact hfin
    · obtain ⟨q, hmq⟩ : ∃ q, m = q + 1 := ⟨m - 1, by omega⟩
      subst hmq
      obtain ⟨f, hf, hnm⟩ := name_at s (q := q) (by omega)
      obtain ⟨b5, o5, rfl, hb5, hc5'⟩ := HO.out (by rw [List.length_map, List.length_map, List.length_reverse]; omega)
      have hbl := World.block_lt_of_cell? w1 ⟨b5, o5 + q, none⟩ (hc5' q _ hnm)
      have g1 : wr.cell? ⟨b5, o5 + q, none⟩ = some (.string f.name) := (hbr.cell (p := ⟨b5, o5 + q, none⟩) hbl).trans (hc5' q _ hnm)
      have hbl2 : b5 < wr.heap.size := Nat.lt_of_lt_of_le hbl hwz
      have t1' : wr.cell? ⟨w.heap.size + 1, 1, none⟩ = some (.string k.name) := cell_at hpr.ht 1
      have i0 : (0 : Int) < (q : Int) + 1 := by omega
      have i1 : (q : Int) < (s.fs.length : Int) := by omega
      have i2 : (0 : Int) ≤ (q : Int) := by omega
      have i4 : IntKind.i64.wrap (q : Int) = (q : Int) := IntWalk.i64_in _ (by omega)
      have i5 : decide ((0 : Int) < (q : Int) + 1) = true := decide_eq_true i0
      have i6 : (0 : Int) < ((q + 1 : Nat) : Int) := by omega
      have HF := Lib.hid hf
      have KK := Lib.hid (fun W (h : Below wr.heap.size wr W) => (⟨(h.cell (p := ⟨b5, o5 + q, none⟩) hbl2).trans g1, (h.cell (p := ⟨w.heap.size + 1, 1, none⟩) (by have := HPR.out.siz; show w.heap.size + 1 < wr.heap.size; omega)).trans t1'⟩ : W.cell? ⟨b5, o5 + q, none⟩ = some (.string f.name) ∧ W.cell? ⟨w.heap.size + 1, 1, none⟩ = some (.string k.name)))
      have HCL := Lib.hid (fun W => closesR_any f.name k.name W)
      have HSB := Lib.hid (show shutBy k.name.data.toList f = closesB f.name.data.toList k.name.data.toList from rfl)
      obtain ⟨cl, hcl⟩ : ∃ cl, closesB f.name.data.toList k.name.data.toList = cl := ⟨_, rfl⟩
      rw [hcl] at HCL HSB
      clear hc5' hf hnm hcl hbl hm0
      cases cl with
      | true =>
        go_wp2_with fail
        go_region_held3 (fun W => W.cell? ⟨b5, o5 + q, none⟩ = some (.string f.name) ∧ W.cell? ⟨w.heap.size + 1, 1, none⟩ = some (.string k.name))
          (first | exact ⟨g1, t1'⟩ | exact KK.out _ (Below.refl _ _) | exact KK.out _ wdr | exact KK.out _ (below_after wdr hb9))
          (first | (go_at_call 18; refine (HCL.out _).mono ?_; rintro e w9 ⟨rfl, hb9⟩))
        go_wp2_with fail
        go_roundw
        case rel =>
          refine ⟨q, rfl, by omega, fun q' f' hq' hf' => ?_, below_after hbr (below_after wdr hb9)⟩
          by_cases h : q' = s.fs.length - 1 - q
          · subst h
            have := HF.out
            rw [hf'] at this
            injection this with e
            subst e
            exact HSB.out
          · exact HALL.out q' f' (by omega) hf'
        case measure =>
          show (intOf (.int .i64 (q : Int))).toNat < (intOf (.int .i64 ((q + 1 : Nat) : Int))).toNat
          simp only [intOf]
          omega
      | false =>
        obtain ⟨s', hba⟩ := begAt_of HKK.out hm HALL.out (fun f' hf' => by have := HF.out; rw [show s.fs.length - (q + 1) = s.fs.length - 1 - q by omega, this] at hf'; injection hf' with e; rw [← e]; exact HSB.out)
        have HBA := Lib.hid hba
        clear hba
        go_wp2_with fail
        go_region_held3 (fun W => W.cell? ⟨b5, o5 + q, none⟩ = some (.string f.name) ∧ W.cell? ⟨w.heap.size + 1, 1, none⟩ = some (.string k.name))
          (first | exact ⟨g1, t1'⟩ | exact KK.out _ (Below.refl _ _) | exact KK.out _ wdr | exact KK.out _ (below_after wdr hb9))
          (first | (go_at_call 18; refine (HCL.out _).mono ?_; rintro e w9 ⟨rfl, hb9⟩))
        have hpz := hpr.keep (below_after wdr hb9)
        have i9 : (q : Int) + 1 ≤ (cp : Int) := by omega
        have i91 : ((q + 1 : Nat) : Int) ≤ (cp : Int) := by omega
        have i8 : q + 1 ≤ cp := by omega
        have i7 : (0 : Int) ≤ ((q + 1 : Nat) : Int) := by omega
        have b1z : w9.cell? ⟨w.heap.size, 1, none⟩ = some (.slice Ap s.fs.length cp) := (cell_at hpz.hb 1).trans (by rw [← HPL.out]; rfl)
        have b0z : w9.cell? ⟨w.heap.size, 0, none⟩ = some (.slice A (nodesB s).length c) := cell_at hpz.hb 0
        have t1z : w9.cell? ⟨w.heap.size + 1, 1, none⟩ = some (.string k.name) := cell_at hpz.ht 1
        have t2z : w9.cell? ⟨w.heap.size + 1, 2, none⟩ = some (.slice Aa k.attrs.length ca) := cell_at hpz.ht 2
        go_wp2_with fail
        refine (beg_count HB.out hsz _ hpz hm HBA.out).mono ?_
        rintro e w2 ⟨rfl, hp2⟩
        have b0y : w2.cell? ⟨w.heap.size, 0, none⟩ = some (.slice A (nodesB s).length c) := cell_at hp2.hb 0
        have t1y : w2.cell? ⟨w.heap.size + 1, 1, none⟩ = some (.string k.name) := cell_at hp2.ht 1
        have t2y : w2.cell? ⟨w.heap.size + 1, 2, none⟩ = some (.slice Aa k.attrs.length ca) := cell_at hp2.ht 2
        go_wp2_with fail
        refine (beg_put HB.out hsz _ hp2 hm HBA.out).mono ?_
        rintro e w3 ⟨v3, rfl, ht3, hp3⟩
        obtain ⟨A3, c3, rfl, _⟩ := ht3.shape
        have b0x : w3.cell? ⟨w.heap.size, 0, none⟩ = some (.slice A (nodesB s).length c) := cell_at hp3.hb 0
        have t1x : w3.cell? ⟨w.heap.size + 1, 1, none⟩ = some (.string k.name) := cell_at hp3.ht 1
        have t2x : w3.cell? ⟨w.heap.size + 1, 2, none⟩ = some (.slice Aa k.attrs.length ca) := cell_at hp3.ht 2
        have HPM := Lib.hid (show PathAt (fun b => (P b ∧ b ≠ w.heap.size + 1 + 1) ∧ b < w3.heap.size) w3 (pathB s') (.slice Ap (q + 1) cp) by rw [HBA.out.pa]; exact PathAt.take (hp3.came HB.out).2.1 (q + 1) (by rw [pathB_len]; exact hm))
        have hlp : (pathB s').length ≤ 100000 := by rw [HBA.out.pa, List.length_take, pathB_len]; omega
        have h33 := hp3.siz
        have HP3 := Lib.hid hp3
        have HT3 := Lib.hid ht3
        clear hp3 ht3 hp2
        go_wp2_with (at_builtin; refine wpList_append_path rfl _ _ rfl w3.heap.size [] _ rfl (OwnI.nil _ _) _ (pathB s') _ rfl HPM.out (by simp; omega) (Nat.le_refl _) ?_; intro v4 w4 hown4 hg4; rw [List.nil_append] at hown4; have hb4 : Below w3.heap.size w3 w4 := (Below.refl _ w3).grown hg4 (Nat.le_refl _) (fun g hg => by cases hg); have HP4 := Lib.hid (HP3.out.keep hb4); have t14 : w4.cell? ⟨w.heap.size + 1, 1, none⟩ = some (.string k.name) := cell_at HP4.out.ht 1; have HOW4 := Lib.hid hown4; obtain ⟨A4, c4, rfl, _⟩ := own_size hown4; clear hown4 hg4)
        refine (voidR_any k.name w4).mono ?_
        rintro e w5 ⟨rfl, rfl⟩
        have hz4 := hb4.size
        obtain ⟨vb, hvb⟩ : ∃ vb, voidB k.name.data.toList = vb := ⟨_, rfl⟩
        rw [hvb]
        cases vb with
        | true =>
          have HV := Lib.hid (HBA.out.vo hvb)
          clear hvb
          have r0 : w4.cell? ⟨w.heap.size + 1 + 1, 0, none⟩ = some (.slice none 0 0) := cell_at HP4.out.hr 0
          have r1 : w4.cell? ⟨w.heap.size + 1 + 1, 1, none⟩ = some (.slice none 0 0) := cell_at HP4.out.hr 1
          have f0 := froz7 HP4.out.hr 0
          have f1 := froz7 HP4.out.hr 1
          go_wp2_with fail
          refine bodyPost_ret (v := .agg #[.slice A3 (updL (pathB s') (mstep · (nodeK k)) (nodesB s')).length c3, .slice A4 (pathB s').length c4]) ?_ rfl ?_
          · simp [results, Try.f23, go_sem, r0, r1]
          · exact beg_tell HP4.out hb4 h33 HT3.out HOW4.out HV.out.1 HV.out.2
        | false =>
          have HV := Lib.hid (HBA.out.el hvb)
          clear hvb
          go_wp2_with (at_builtin; refine wpList_append_path rfl _ _ rfl w3.heap.size (pathB s') _ rfl (own_below HOW4.out (below_new _ _)) (fun _ => True) [(endL (pathB s') (nodesB s')).length] _ rfl (one_path (alloc_here' rfl) trivial) (by show _ + 1 ≤ _; omega) (by rw [World.size_alloc]; omega) ?_; intro v6 w6 hown6 hg6; have hb6 : Below w3.heap.size w3 w6 := (hb4.alloc hz4 _).grown hg6 (by rw [World.size_alloc]; omega) (fun g hg => (World.ownsRow.lt HOW4.out g hg).1); have HP6 := Lib.hid (HP3.out.keep hb6); have r0 : w6.cell? ⟨w.heap.size + 1 + 1, 0, none⟩ = some (.slice none 0 0) := cell_at HP6.out.hr 0; have r1 : w6.cell? ⟨w.heap.size + 1 + 1, 1, none⟩ = some (.slice none 0 0) := cell_at HP6.out.hr 1; have f0 := froz7 HP6.out.hr 0; have f1 := froz7 HP6.out.hr 1; have HOW6 := Lib.hid hown6; obtain ⟨A6, c6, rfl, _⟩ := own_size hown6; clear hown6 hg6)
          refine bodyPost_ret (v := .agg #[.slice A3 (updL (pathB s') (mstep · (nodeK k)) (nodesB s')).length c3, .slice A6 ((pathB s').length + 1) c6]) ?_ rfl ?_
          · simp [results, Try.f23, go_sem, r0, r1]
          · have hfin := beg_tell HP6.out hb6 h33 HT3.out HOW6.out HV.out.1 HV.out.2
            rw [List.length_append] at hfin
            exact hfin

end Go.Proofs.Ytfdgmoakobjohaa
