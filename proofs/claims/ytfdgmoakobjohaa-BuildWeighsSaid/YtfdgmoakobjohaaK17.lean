/- Parts of the proof, in build order: Put7 Opn7. -/
import Derived.Test.YtfdgmoakobjohaaK06
import Derived.Test.YtfdgmoakobjohaaK16
import Derived.Test.YtfdgmoakobjohaaK08
import Derived.Deep.RegionHeld3
import Derived.StillTailTactics
import Derived.BigQuiet

/- Part Put7. -/
namespace Go.Proofs.Ytfdgmoakobjohaa
open Go.RowKit
set_option linter.unusedVariables false

/-- A path of places, where it lies. -/
def PathAt (S : Nat → Prop) (w : World) (P : List Nat) (v : Value) : Prop :=
  ∃ A c, v = .slice A P.length c ∧ P.length ≤ c ∧ Cells S w A (P.map fun k : Nat => Value.int .i64 (k : Int))

/-- What put hands back. -/
def PutRet (P : Nat → Prop) (l2 : List Nd) (w : World) (e : Ending) (w' : World) : Prop := ∃ v', e = .returned v' ∧ Tree (fun b => P b ∧ b < w'.heap.size) w' l2 v' ∧ Below w.heap.size w w'
def nV (n : Nd) (va vk : Value) : Obj := .cells #[.int .i64 n.kind, .string n.name, va, .string n.text, vk] 37
/-- put's own copy of the list, behind the node's box. -/
structure Copy (P : Nat → Prop) (w w1 : World) (n : Nd) (va vk : Value) (l : List Nd) (v : Value) : Prop where
  own : OwnK w1 (w.heap.size + 1) P l v
  bel : Below w.heap.size w w1
  box : w1.heap[w.heap.size]? = some (nV n va vk)
  siz : w.heap.size + 1 ≤ w1.heap.size
  new : ∀ b, w.heap.size ≤ b → P b
theorem copy_of {P : Nat → Prop} {w w1 : World} {n : Nd} {va vk : Value} {l : List Nd} {v : Value} (hP : ∀ b, w.heap.size ≤ b → P b) (h : OwnK w1 (w.heap.size + 1) P l v) (hg : (w.alloc (nV n va vk)).grownBy w1 none) : Copy P w w1 n va vk l v := by
  have hz : (w.alloc (nV n va vk)).heap.size = w.heap.size + 1 := World.size_alloc _ _
  have hb : Below w.heap.size w w1 := (below_new w (nV n va vk)).grown hg (by rw [hz]; omega) (fun g hg => by cases hg)
  refine ⟨h, hb, ?_, by have := hg.size; omega, hP⟩
  exact (hg.block w.heap.size (by rw [hz]; omega) (fun e => by cases e)).trans (alloc_here' rfl)
theorem Copy.tree {P : Nat → Prop} {w w1 : World} {n : Nd} {va vk : Value} {l : List Nd} {v : Value} (h : Copy P w w1 n va vk l v) : Tree (fun b => P b ∧ b < w1.heap.size) w1 l v := OwnK.tree h.own fun b hb => h.new b (by omega)
theorem Copy.last {P : Nat → Prop} {w w1 : World} {n : Nd} {va vk : Value} {l m : List Nd} {x : Nd} {A : Option Addr} {k c : Nat} (h : Copy P w w1 n va vk l (.slice A k c)) (hl : l = m ++ [x]) :
    ∃ g, A = some ⟨g, 0, none⟩ ∧ w.heap.size + 1 ≤ g ∧ w1.cell? ⟨g, m.length * 5, none⟩ = some (.int .i64 x.kind) ∧ w1.cell? ⟨g, m.length * 5 + 3, none⟩ = some (.string x.text) ∧ w1.frozen? ⟨g, m.length * 5 + 3, none⟩ = false := by
  subst hl
  obtain ⟨g, h1, _, h2, h3, h4, h5⟩ := OwnK.last h.own
  exact ⟨g, h1, h2, h3, h4, h5⟩
theorem Copy.text {P : Nat → Prop} {w w1 : World} {n : Nd} {va vk : Value} {l m : List Nd} {x : Nd} {g k c : Nat} (h : Copy P w w1 n va vk l (.slice (some ⟨g, 0, none⟩) k c)) (hl : l = m ++ [x]) (hn : n.kind = 2) (hx : x.kind = 2) :
    PutRet P (mstep l n) w (.returned (.slice (some ⟨g, 0, none⟩) k c)) (w1.setCell ⟨g, m.length * 5 + 3, none⟩ (.string (x.text ++ n.text))).drew := by
  subst hl
  have ht := OwnK.text h.own (x.text ++ n.text)
  refine ⟨_, rfl, ?_, ((h.bel.grown ht.2 h.bel.size (fun g' hg => by injection hg with hg; have := (OwnT.lt h.own g' (by rw [hg]; rfl)).1; omega))).drew⟩
  rw [mstep_glue _ _ hn (by rw [lastText_snoc, hx]; rfl), mglue_snoc]
  exact (OwnK.tree ht.1 fun b hb => h.new b (by omega)).keep (Kept.belowB (Below.refl _ _).drew fun b h => h.2)
theorem Copy.same {P : Nat → Prop} {w w1 : World} {n : Nd} {va vk : Value} {l : List Nd} {v : Value} (h : Copy P w w1 n va vk l v) (hn : n.kind = 2) (ht : n.text.data.toList = []) : PutRet P (mstep l n) w (.returned v) w1 :=
  ⟨v, rfl, by unfold mstep; rw [if_pos ⟨hn, ht⟩]; exact h.tree, h.bel⟩
theorem Copy.hang {P : Nat → Prop} {w w1 : World} {n : Nd} {va vk : Value} {l : List Nd} {v : Value} (h : Copy P w w1 n va vk l v) (hat : AttrsAt (fun b => P b ∧ b < w.heap.size) w n.attrs va) (hk : Tree (fun b => P b ∧ b < w.heap.size) w n.kids vk) (o : Obj) :
    AttrsAt (SubK P (w1.alloc o) v) (w1.alloc o) n.attrs va ∧ Tree (SubK P (w1.alloc o) v) (w1.alloc o) n.kids vk := by
  have hb : Below w.heap.size w (w1.alloc o) := h.bel.alloc h.bel.size o
  have hS : ∀ b, (P b ∧ b < w.heap.size) → SubK P (w1.alloc o) v b := fun b hb' => ⟨hb'.1, Nat.lt_of_lt_of_le hb'.2 hb.size, fun e => by have := (OwnT.lt h.own b e).1; omega⟩
  exact ⟨(hat.keep (Kept.belowB hb fun b h => h.2)).mono hS, (hk.keep (Kept.belowB hb fun b h => h.2)).mono hS⟩
theorem Copy.more {P : Nat → Prop} {w w1 w4 : World} {n : Nd} {va vk v4 : Value} {l l2 : List Nd} {v : Value} (h : Copy P w w1 n va vk l v) (o : Obj) (h4 : OwnK w4 (w.heap.size + 1) P l2 v4) (hg : (w1.alloc o).grownBy w4 v.ownBlock) : PutRet P l2 w (.returned v4) w4 := by
  have hb : Below w.heap.size w (w1.alloc o) := h.bel.alloc h.bel.size o
  exact ⟨v4, rfl, OwnK.tree h4 fun b hb => h.new b (by omega), hb.grown hg hb.size (fun g hg => by have := (OwnT.lt h.own g hg).1; omega)⟩

set_option maxHeartbeats 4000000 in
set_option maxRecDepth 100000 in
theorem put7_nil (P : Nat → Prop) (n : Nd) (l : List Nd) (v vp va vk : Value) (w : World) (hPN : ∀ b, w.heap.size ≤ b → P b) (hT : Tree (fun b => P b ∧ b < w.heap.size) w l v) (hP : PathAt (· < w.heap.size) w [] vp)
    (hat : AttrsAt (fun b => P b ∧ b < w.heap.size) w n.attrs va) (hk : Tree (fun b => P b ∧ b < w.heap.size) w n.kids vk) (hsz : szL l + szN n ≤ 100000) :
    Calls Try.prog 32 #[v, vp, .agg #[.int .i64 n.kind, .string n.name, va, .string n.text, vk]] w (PutRet P (mstep l n) w) := by
  have hlen := szL_len l
  obtain ⟨Ap, cp, rfl, hcp, hPc⟩ := hP
  obtain ⟨A2, c2, rfl, _, _⟩ := id hat
  obtain ⟨A4, c4, rfl, _⟩ := hk.shape
  have HT := Lib.hid (((hT.keep (Kept.belowB (below_new w (nV n (.slice A2 n.attrs.length c2) (.slice A4 n.kids.length c4))) fun b h => h.2)).mono fun b h => (⟨h.1, by rw [World.size_alloc]; omega, fun e => by cases e⟩ : SubK P (w.alloc (nV n (.slice A2 n.attrs.length c2) (.slice A4 n.kids.length c4))) (.slice none 0 0) b)))
  have hl0 : ([] : List Nd).length + l.length ≤ 1000000 := by simp; omega
  have HAK := Lib.hid (And.intro hat hk)
  clear hPc hat hk
  obtain ⟨Av, cv, rfl, hcv⟩ := hT.shape
  clear hT
  rw [szN_eq] at hsz
  by_cases h2 : n.kind = 2
  · have B2 : (n.kind == 2) = true := by simp [h2]
    have H2 := Lib.hid h2
    clear h2
    by_cases hlt : lastText l = true
    · obtain ⟨m, x, hm⟩ := snoc_of (l := l) (by cases l with | nil => simp [lastText] at hlt | cons a l => simp)
      have hx : x.kind = 2 := by rw [hm, lastText_snoc] at hlt; simpa using hlt
      have Bx : (x.kind == 2) = true := by simp [hx]
      have hl1 : l.length = m.length + 1 := by rw [hm]; simp
      have hxs : x.text.size ≤ 100000 := by
        have h1 := szL_at (l := l) (j := m.length) (n := x) (by rw [hm]; simp)
        rw [szN_eq] at h1
        omega
      have HM := Lib.hid hm
      have HX := Lib.hid hx
      have hns : n.text.size ≤ 100000 := by omega
      clear hm hx hlt hsz
      rw [hl1] at hl0 hlen hcv
      rw [hl1]
      rw [hl1] at HT
      have HL1 := Lib.hid hl1
      clear hl1
      have i1 : (m.length : Int) < ((m.length + 1 : Nat) : Int) := by omega
      have i2 : (0 : Int) ≤ (m.length : Int) := by omega
      have i3 : (m.length : Int) < (m.length : Int) + 1 := by omega
      go_enter Try.func32, Try.ntmps32
      go_wp2_with (at_builtin; refine wpList_append_treeK rfl _ _ rfl (w.heap.size + 1) P [] _ rfl (OwnK.nil _ _ _) l _ rfl HT.out (by rw [HL1.out]; exact hl0) (by rw [World.size_alloc]; omega) ?_; intro v1 w1 hown1 hg1; rw [List.nil_append] at hown1; have HC := Lib.hid (copy_of hPN hown1 hg1); have hz1 := HC.out.siz; have x0 : w1.cell? ⟨w.heap.size, 0, none⟩ = some (.int .i64 n.kind) := cell_at HC.out.box 0; have x3 : w1.cell? ⟨w.heap.size, 3, none⟩ = some (.string n.text) := cell_at HC.out.box 3; obtain ⟨A1, c1, rfl, hc1⟩ := OwnT.shape hown1; obtain ⟨g, rfl, hbg, g0, g3, gf⟩ := HC.out.last HM.out; rw [HL1.out] at HC hc1 ⊢; clear hown1 hg1)
      have i5 : ¬ (9223372036854775807 < x.text.size + n.text.size) := by omega
      go_still_tail 10, (by kernel_rfl)
      change wpList _ _ _ _ _ w1.drew
      clear i5
      go_wp2_with fail
      go_ret
      exact HC.out.text HM.out H2.out HX.out
    · have hlt' : lastText l = false := by simpa using hlt
      have HS := Lib.hid (show n.text.data.toList ≠ [] → mstep l n = l ++ [n] from fun h0 => mstep_app fun _ => ⟨h0, hlt'⟩)
      clear hlt
      have hln : l.length ≤ 1000000 := by omega
      rcases List.eq_nil_or_concat l with hm | ⟨m, x, hm⟩
      · have hl1 : l.length = 0 := by rw [hm]; rfl
        have HL1 := Lib.hid hl1
        clear hlt' hm hsz
        rw [hl1] at hcv
        rw [hl1]
        rw [hl1] at HT
        clear hl1
        by_cases h0 : n.text.data.toList = []
        · have B0 : (n.text.toList == []) = true := by rw [eqs, decide_eq_true h0]
          have HT0 := Lib.hid h0
          clear h0
          go_enter Try.func32, Try.ntmps32
          go_wp2_with (first | (at_builtin; refine wpList_append_treeK rfl _ _ rfl (w.heap.size + 1) P [] _ rfl (OwnK.nil _ _ _) l _ rfl HT.out (by rw [HL1.out]; decide) (by rw [World.size_alloc]; omega) ?_; intro v1 w1 hown1 hg1; rw [List.nil_append] at hown1; have HC := Lib.hid (copy_of hPN hown1 hg1); have hz1 := HC.out.siz; have x0 : w1.cell? ⟨w.heap.size, 0, none⟩ = some (.int .i64 n.kind) := cell_at HC.out.box 0; have x1 : w1.cell? ⟨w.heap.size, 1, none⟩ = some (.string n.name) := cell_at HC.out.box 1; have x2 : w1.cell? ⟨w.heap.size, 2, none⟩ = some (.slice A2 n.attrs.length c2) := cell_at HC.out.box 2; have x3 : w1.cell? ⟨w.heap.size, 3, none⟩ = some (.string n.text) := cell_at HC.out.box 3; have x4 : w1.cell? ⟨w.heap.size, 4, none⟩ = some (.slice A4 n.kids.length c4) := cell_at HC.out.box 4; obtain ⟨A1, c1, rfl, hc1⟩ := OwnT.shape hown1; rw [HL1.out] at HC hc1 ⊢; clear hown1 hg1) | (at_builtin; refine wpList_append_nodeK rfl _ _ rfl (w.heap.size + 1) P l _ rfl (OwnK.later HC.out.own (below_new _ _)) ⟨n, .slice A2 n.attrs.length c2, .slice A4 n.kids.length c4⟩ ⟨w1.heap.size, 0, none⟩ 1 rfl (new_five _ _ _) (HC.out.hang HAK.out.1 HAK.out.2 _).1 (HC.out.hang HAK.out.1 HAK.out.2 _).2 (by omega) (by rw [World.size_alloc]; omega) ?_; intro v4 w4 hown4 hg4; have HE := Lib.hid (HC.out.more _ hown4 hg4); clear hown4 hg4))
          go_ret
          exact HC.out.same H2.out HT0.out
        · have B0 : (n.text.toList == []) = false := by rw [eqs, decide_eq_false h0]
          have HT0 := Lib.hid (HS.out h0)
          clear h0
          go_enter Try.func32, Try.ntmps32
          go_wp2_with (first | (at_builtin; refine wpList_append_treeK rfl _ _ rfl (w.heap.size + 1) P [] _ rfl (OwnK.nil _ _ _) l _ rfl HT.out (by rw [HL1.out]; decide) (by rw [World.size_alloc]; omega) ?_; intro v1 w1 hown1 hg1; rw [List.nil_append] at hown1; have HC := Lib.hid (copy_of hPN hown1 hg1); have hz1 := HC.out.siz; have x0 : w1.cell? ⟨w.heap.size, 0, none⟩ = some (.int .i64 n.kind) := cell_at HC.out.box 0; have x1 : w1.cell? ⟨w.heap.size, 1, none⟩ = some (.string n.name) := cell_at HC.out.box 1; have x2 : w1.cell? ⟨w.heap.size, 2, none⟩ = some (.slice A2 n.attrs.length c2) := cell_at HC.out.box 2; have x3 : w1.cell? ⟨w.heap.size, 3, none⟩ = some (.string n.text) := cell_at HC.out.box 3; have x4 : w1.cell? ⟨w.heap.size, 4, none⟩ = some (.slice A4 n.kids.length c4) := cell_at HC.out.box 4; obtain ⟨A1, c1, rfl, hc1⟩ := OwnT.shape hown1; rw [HL1.out] at HC hc1 ⊢; clear hown1 hg1) | (at_builtin; refine wpList_append_nodeK rfl _ _ rfl (w.heap.size + 1) P l _ rfl (OwnK.later HC.out.own (below_new _ _)) ⟨n, .slice A2 n.attrs.length c2, .slice A4 n.kids.length c4⟩ ⟨w1.heap.size, 0, none⟩ 1 rfl (new_five _ _ _) (HC.out.hang HAK.out.1 HAK.out.2 _).1 (HC.out.hang HAK.out.1 HAK.out.2 _).2 (by omega) (by rw [World.size_alloc]; omega) ?_; intro v4 w4 hown4 hg4; have HE := Lib.hid (HC.out.more _ hown4 hg4); clear hown4 hg4))
          go_ret
          rw [HT0.out]
          exact HE.out
      · rw [List.concat_eq_append] at hm
        have hx : (x.kind == 2) = false := by rw [← lastText_snoc m x, ← hm]; exact hlt'
        have hl1 : l.length = m.length + 1 := by rw [hm]; simp
        have HM := Lib.hid hm
        clear hm hlt' hsz
        rw [hl1] at hl0 hlen hcv hln
        rw [hl1]
        rw [hl1] at HT
        have HL1 := Lib.hid hl1
        clear hl1
        have i1 : (m.length : Int) < ((m.length + 1 : Nat) : Int) := by omega
        have i2 : (0 : Int) ≤ (m.length : Int) := by omega
        have i3 : (m.length : Int) < (m.length : Int) + 1 := by omega
        by_cases h0 : n.text.data.toList = []
        · have B0 : (n.text.toList == []) = true := by rw [eqs, decide_eq_true h0]
          have HT0 := Lib.hid h0
          clear h0
          go_enter Try.func32, Try.ntmps32
          go_wp2_with (first | (at_builtin; refine wpList_append_treeK rfl _ _ rfl (w.heap.size + 1) P [] _ rfl (OwnK.nil _ _ _) l _ rfl HT.out (by rw [HL1.out]; exact hl0) (by rw [World.size_alloc]; omega) ?_; intro v1 w1 hown1 hg1; rw [List.nil_append] at hown1; have HC := Lib.hid (copy_of hPN hown1 hg1); have hz1 := HC.out.siz; have x0 : w1.cell? ⟨w.heap.size, 0, none⟩ = some (.int .i64 n.kind) := cell_at HC.out.box 0; have x1 : w1.cell? ⟨w.heap.size, 1, none⟩ = some (.string n.name) := cell_at HC.out.box 1; have x2 : w1.cell? ⟨w.heap.size, 2, none⟩ = some (.slice A2 n.attrs.length c2) := cell_at HC.out.box 2; have x3 : w1.cell? ⟨w.heap.size, 3, none⟩ = some (.string n.text) := cell_at HC.out.box 3; have x4 : w1.cell? ⟨w.heap.size, 4, none⟩ = some (.slice A4 n.kids.length c4) := cell_at HC.out.box 4; obtain ⟨A1, c1, rfl, hc1⟩ := OwnT.shape hown1; obtain ⟨g, rfl, hbg, g0, g3, gf⟩ := HC.out.last HM.out; rw [HL1.out] at HC hc1 ⊢; clear hown1 hg1) | (at_builtin; refine wpList_append_nodeK rfl _ _ rfl (w.heap.size + 1) P l _ rfl (OwnK.later HC.out.own (below_new _ _)) ⟨n, .slice A2 n.attrs.length c2, .slice A4 n.kids.length c4⟩ ⟨w1.heap.size, 0, none⟩ 1 rfl (new_five _ _ _) (HC.out.hang HAK.out.1 HAK.out.2 _).1 (HC.out.hang HAK.out.1 HAK.out.2 _).2 (by omega) (by rw [World.size_alloc]; omega) ?_; intro v4 w4 hown4 hg4; have HE := Lib.hid (HC.out.more _ hown4 hg4); clear hown4 hg4))
          go_ret
          exact HC.out.same H2.out HT0.out
        · have B0 : (n.text.toList == []) = false := by rw [eqs, decide_eq_false h0]
          have HT0 := Lib.hid (HS.out h0)
          clear h0
          go_enter Try.func32, Try.ntmps32
          go_wp2_with (first | (at_builtin; refine wpList_append_treeK rfl _ _ rfl (w.heap.size + 1) P [] _ rfl (OwnK.nil _ _ _) l _ rfl HT.out (by rw [HL1.out]; exact hl0) (by rw [World.size_alloc]; omega) ?_; intro v1 w1 hown1 hg1; rw [List.nil_append] at hown1; have HC := Lib.hid (copy_of hPN hown1 hg1); have hz1 := HC.out.siz; have x0 : w1.cell? ⟨w.heap.size, 0, none⟩ = some (.int .i64 n.kind) := cell_at HC.out.box 0; have x1 : w1.cell? ⟨w.heap.size, 1, none⟩ = some (.string n.name) := cell_at HC.out.box 1; have x2 : w1.cell? ⟨w.heap.size, 2, none⟩ = some (.slice A2 n.attrs.length c2) := cell_at HC.out.box 2; have x3 : w1.cell? ⟨w.heap.size, 3, none⟩ = some (.string n.text) := cell_at HC.out.box 3; have x4 : w1.cell? ⟨w.heap.size, 4, none⟩ = some (.slice A4 n.kids.length c4) := cell_at HC.out.box 4; obtain ⟨A1, c1, rfl, hc1⟩ := OwnT.shape hown1; obtain ⟨g, rfl, hbg, g0, g3, gf⟩ := HC.out.last HM.out; rw [HL1.out] at HC hc1 ⊢; clear hown1 hg1) | (at_builtin; refine wpList_append_nodeK rfl _ _ rfl (w.heap.size + 1) P l _ rfl (OwnK.later HC.out.own (below_new _ _)) ⟨n, .slice A2 n.attrs.length c2, .slice A4 n.kids.length c4⟩ ⟨w1.heap.size, 0, none⟩ 1 rfl (new_five _ _ _) (HC.out.hang HAK.out.1 HAK.out.2 _).1 (HC.out.hang HAK.out.1 HAK.out.2 _).2 (by rw [HL1.out]; exact hln) (by rw [World.size_alloc]; omega) ?_; intro v4 w4 hown4 hg4; have HE := Lib.hid (HC.out.more _ hown4 hg4); clear hown4 hg4))
          go_ret
          rw [HT0.out]
          exact HE.out
  · have B2 : (n.kind == 2) = false := by simp [h2]
    have HT0 := Lib.hid (show mstep l n = l ++ [n] from mstep_app fun h => absurd h h2)
    have hln : l.length ≤ 1000000 := by omega
    clear h2 hsz
    go_enter Try.func32, Try.ntmps32
    go_wp2_with (first | (at_builtin; refine wpList_append_treeK rfl _ _ rfl (w.heap.size + 1) P [] _ rfl (OwnK.nil _ _ _) l _ rfl HT.out hl0 (by rw [World.size_alloc]; omega) ?_; intro v1 w1 hown1 hg1; rw [List.nil_append] at hown1; have HC := Lib.hid (copy_of hPN hown1 hg1); have hz1 := HC.out.siz; have x0 : w1.cell? ⟨w.heap.size, 0, none⟩ = some (.int .i64 n.kind) := cell_at HC.out.box 0; have x1 : w1.cell? ⟨w.heap.size, 1, none⟩ = some (.string n.name) := cell_at HC.out.box 1; have x2 : w1.cell? ⟨w.heap.size, 2, none⟩ = some (.slice A2 n.attrs.length c2) := cell_at HC.out.box 2; have x3 : w1.cell? ⟨w.heap.size, 3, none⟩ = some (.string n.text) := cell_at HC.out.box 3; have x4 : w1.cell? ⟨w.heap.size, 4, none⟩ = some (.slice A4 n.kids.length c4) := cell_at HC.out.box 4; obtain ⟨A1, c1, rfl, hc1⟩ := OwnT.shape hown1; skip; clear hown1 hg1) | (at_builtin; refine wpList_append_nodeK rfl _ _ rfl (w.heap.size + 1) P l _ rfl (OwnK.later HC.out.own (below_new _ _)) ⟨n, .slice A2 n.attrs.length c2, .slice A4 n.kids.length c4⟩ ⟨w1.heap.size, 0, none⟩ 1 rfl (new_five _ _ _) (HC.out.hang HAK.out.1 HAK.out.2 _).1 (HC.out.hang HAK.out.1 HAK.out.2 _).2 (by omega) (by rw [World.size_alloc]; omega) ?_; intro v4 w4 hown4 hg4; have HE := Lib.hid (HC.out.more _ hown4 hg4); clear hown4 hg4))
    go_ret
    rw [HT0.out]
    exact HE.out

theorem Copy.kids {P : Nat → Prop} {w w1 w2 : World} {n : Nd} {va vk v2 : Value} {l K : List Nd} {m : Nd} {g k q c : Nat} (h : Copy P w w1 n va vk l (.slice (some ⟨g, 0, none⟩) q c)) (hb : Below w1.heap.size w1 w2) (hk : l[k]? = some m)
    (hK : Tree (fun b => (P b ∧ b ≠ g) ∧ b < w2.heap.size) w2 K v2) : PutRet P (l.set k (kidsN m K)) w (.returned (.slice (some ⟨g, 0, none⟩) q c)) (w2.setCell ⟨g, k * 5 + 4, none⟩ v2) := by
  have ho := OwnK.later h.own hb
  have hs := OwnK.kids ho hk K v2 (hK.mono fun b hb => ⟨hb.1.1, hb.2, fun e => by injection e with e; exact hb.1.2 e.symm⟩)
  have hb2 : Below w.heap.size w w2 := below_after h.bel hb
  exact ⟨_, rfl, OwnK.tree hs.1 fun b hb => h.new b (by omega), hb2.grown hs.2 hb2.size (fun g' hg => by injection hg with hg; have := (OwnT.lt h.own g' (by rw [hg]; rfl)).1; omega)⟩
theorem PutRet.drew {P : Nat → Prop} {l2 : List Nd} {w w' : World} {e : Ending} (h : PutRet P l2 w e w') : PutRet P l2 w e w'.drew := by
  obtain ⟨v', h1, h2, h3⟩ := h
  exact ⟨v', h1, h2.keep (Kept.belowB (Below.refl _ _).drew fun b h => h.2), h3.drew⟩

set_option maxHeartbeats 1000000 in
set_option maxRecDepth 100000 in
theorem put7_any (n : Nd) : ∀ (Q : List Nat) (P : Nat → Prop) (l : List Nd) (v vp va vk : Value) (w : World), (∀ b, w.heap.size ≤ b → P b) → Tree (fun b => P b ∧ b < w.heap.size) w l v → PathAt (· < w.heap.size) w Q vp → okP Q l →
    AttrsAt (fun b => P b ∧ b < w.heap.size) w n.attrs va → Tree (fun b => P b ∧ b < w.heap.size) w n.kids vk → szL l + szN n ≤ 100000 →
    Calls Try.prog 32 #[v, vp, .agg #[.int .i64 n.kind, .string n.name, va, .string n.text, vk]] w (PutRet P (updL Q (mstep · n) l) w) := by
  intro Q
  induction Q with
  | nil => exact fun P l v vp va vk w hPN hT hP _ hat hk hsz => put7_nil P n l v vp va vk w hPN hT hP hat hk hsz
  | cons k Q ih =>
    intro P l v vp va vk w hPN hT hP hok hat hk hsz
    obtain ⟨m, hm, hok⟩ := hok
    have hlen := szL_len l
    have hkl : k < l.length := (List.getElem?_eq_some_iff.1 hm).1
    obtain ⟨Ap, cp, rfl, hcp, hPc⟩ := hP
    obtain ⟨bp, op, rfl, hbp, hpc⟩ := hPc (by rw [List.length_map, List.length_cons]; omega)
    have p0 : w.cell? ⟨bp, op, none⟩ = some (.int .i64 (k : Int)) := hpc 0 _ rfl
    have HPQ := Lib.hid (show PathAt (· < w.heap.size) w Q (.slice (if cp = 1 then some ⟨bp, op, none⟩ else some ⟨bp, op + 1, none⟩) Q.length (cp - 1)) from
      ⟨_, _, rfl, by rw [List.length_cons] at hcp; omega, fun h0 => ⟨bp, op + 1, by rw [List.length_cons] at hcp; rw [List.length_map] at h0; rw [if_neg (by omega)], hbp, fun j u hu => by have := hpc (j + 1) u (by simpa using hu); rw [Nat.add_assoc, Nat.add_comm 1 j]; exact this⟩⟩)
    obtain ⟨A2, c2, rfl, _, _⟩ := id hat
    obtain ⟨A4, c4, rfl, _⟩ := hk.shape
    have HT := Lib.hid (((hT.keep (Kept.belowB (below_new w (nV n (.slice A2 n.attrs.length c2) (.slice A4 n.kids.length c4))) fun b h => h.2)).mono fun b h => (⟨h.1, by rw [World.size_alloc]; omega, fun e => by cases e⟩ : SubK P (w.alloc (nV n (.slice A2 n.attrs.length c2) (.slice A4 n.kids.length c4))) (.slice none 0 0) b)))
    have hl0 : ([] : List Nd).length + l.length ≤ 1000000 := by simp; omega
    have HAK := Lib.hid (And.intro hat hk)
    have hzm := szL_at hm
    rw [szN_eq] at hzm
    have HUP := Lib.hid (show updL (k :: Q) (mstep · n) l = l.set k (kidsN m (updL Q (mstep · n) m.kids)) by
      show (match l[k]? with | none => l | some n' => l.set k (onKids (updL Q (mstep · n)) n')) = _
      rw [hm]
      rfl)
    have HM := Lib.hid hm
    have HOK := Lib.hid hok
    have HIH := Lib.hid ih
    have i1 : (k : Int) < (l.length : Int) := by omega
    have i2 : (0 : Int) ≤ (k : Int) := by omega
    have hms : szL m.kids + szN n ≤ 100000 := by omega
    have hcp1 : Q.length + 1 ≤ cp := by simpa using hcp
    clear hpc hPc hat hk ih hm hok hcp hzm
    obtain ⟨Av, cv, rfl, hcv⟩ := hT.shape
    clear hT
    rw [show (k :: Q).length = Q.length + 1 from rfl]
    go_enter Try.func32, Try.ntmps32
    go_wp2_with (at_builtin; refine wpList_append_treeK rfl _ _ rfl (w.heap.size + 1) P [] _ rfl (OwnK.nil _ _ _) l _ rfl HT.out hl0 (by rw [World.size_alloc]; omega) ?_; intro v1 w1 hown1 hg1; rw [List.nil_append] at hown1; have HC := Lib.hid (copy_of hPN hown1 hg1); have hz1 := HC.out.siz; have x0 : w1.cell? ⟨w.heap.size, 0, none⟩ = some (.int .i64 n.kind) := cell_at HC.out.box 0; have x1 : w1.cell? ⟨w.heap.size, 1, none⟩ = some (.string n.name) := cell_at HC.out.box 1; have x2 : w1.cell? ⟨w.heap.size, 2, none⟩ = some (.slice A2 n.attrs.length c2) := cell_at HC.out.box 2; have x3 : w1.cell? ⟨w.heap.size, 3, none⟩ = some (.string n.text) := cell_at HC.out.box 3; have x4 : w1.cell? ⟨w.heap.size, 4, none⟩ = some (.slice A4 n.kids.length c4) := cell_at HC.out.box 4; obtain ⟨A1, c1, rfl, hc1⟩ := OwnT.shape hown1; obtain ⟨g, mk, rfl, hbg, hgl, g4, _, gf, hmk⟩ := OwnK.at_ hown1 HM.out; obtain ⟨A6, c6, rfl, _⟩ := hmk.shape; have p1 : w1.cell? ⟨bp, op, none⟩ = some (.int .i64 (k : Int)) := (HC.out.bel.cell (p := ⟨bp, op, none⟩) hbp).trans p0; clear hown1 hg1)
    have H5 := Lib.hid (fun (W : World) (hW : Below w1.heap.size w1 W) =>
      HIH.out (fun b => P b ∧ b ≠ g) m.kids (.slice A6 m.kids.length c6) (.slice (if cp = 1 then some ⟨bp, op, none⟩ else some ⟨bp, op + 1, none⟩) Q.length (cp - 1)) (.slice A2 n.attrs.length c2) (.slice A4 n.kids.length c4) W
        (fun b hb => ⟨hPN b (by have := hW.size; omega), by have := hW.size; omega⟩)
        ((hmk.keep (Kept.below hW fun b h => h.2.1)).mono fun b h => ⟨⟨h.1, fun e => h.2.2 (by rw [e]; rfl)⟩, Nat.lt_of_lt_of_le h.2.1 hW.size⟩)
        (by
          obtain ⟨A, c, h1, h2, h3⟩ := HPQ.out
          have hb : Below w.heap.size w W := below_after HC.out.bel hW
          exact ⟨A, c, h1, h2, (h3.keep (Kept.belowB hb fun b h => h)).mono fun b h => Nat.lt_of_lt_of_le h hb.size⟩)
        HOK.out
        ((HAK.out.1.keep (Kept.belowB (below_after HC.out.bel hW) fun b h => h.2)).mono fun b h => ⟨⟨h.1, by omega⟩, by have := hW.size; omega⟩)
        ((HAK.out.2.keep (Kept.belowB (below_after HC.out.bel hW) fun b h => h.2)).mono fun b h => ⟨⟨h.1, by omega⟩, by have := hW.size; omega⟩)
        hms)
    have hdr : Below w1.heap.size w1 w1.drew := (Below.refl _ _).drew
    clear hmk p0 p1
    have e1 : (1 : Int) ≤ (Q.length : Int) + 1 := by omega
    have e2 : (Q.length : Int) + 1 ≤ (cp : Int) := by omega
    have e3 : (1 : Int) ≤ ((Q.length + 1 : Nat) : Int) := by omega
    have e4 : ((Q.length + 1 : Nat) : Int) ≤ (cp : Int) := by omega
    have mixed : Try.prog.follows Departure.mixedOrders = true := by kernel_rfl
    by_cases hc1 : cp = 1
    case' pos =>
      rw [if_pos hc1] at H5
      subst hc1
      obtain rfl : Q = [] := List.length_eq_zero_iff.1 (by omega)
      clear e1 e2 e3 e4 hcp1
    case' neg =>
      rw [if_neg hc1] at H5
      obtain ⟨c9, rfl⟩ : ∃ c9, cp = c9 + 2 := ⟨cp - 2, by omega⟩
      rw [show c9 + 2 - 1 = c9 + 1 from rfl] at H5
      clear hc1
    all_goals
      go_region_with (first
        | (go_at_call 32; refine (H5.out _ hdr).mono ?_; rintro e w2 ⟨v2, rfl, ht2, hb2⟩; obtain ⟨A7, c7, rfl, _⟩ := ht2.shape; have hb12 := below_after hdr hb2; have g4' : w2.cell? ⟨g, k * 5 + 4, none⟩ = some (.slice A6 m.kids.length c6) := (hb12.cell (p := ⟨g, k * 5 + 4, none⟩) hgl).trans g4; have gf' : w2.frozen? ⟨g, k * 5 + 4, none⟩ = false := (hb12.frozen (p := ⟨g, k * 5 + 4, none⟩) hgl).trans gf))
      all_goals go_wp2_with fail
      all_goals go_ret
      all_goals rw [HUP.out]
      all_goals first | exact HC.out.kids hb12 HM.out ht2 | exact (HC.out.kids hb12 HM.out ht2).drew

end Go.Proofs.Ytfdgmoakobjohaa

/- Part Opn7. -/
namespace Go.Proofs.Ytfdgmoakobjohaa
open Go.RowKit
set_option linter.unusedVariables false

theorem info_str7 : (Try.prog.info? 9).map (fun i => (i.zero, i.size, i.bytes)) = some (some (.string ⟨#[]⟩), 1, 16) := by kernel_rfl

theorem own_base {w : World} {base base' size n : Nat} {e : TypeId} {v : Value} {xs : List Value} (h : w.ownsRow base e size v n xs) (hb : base' ≤ base) : w.ownsRow base' e size v n xs := by
  refine ⟨h.1, ?_⟩
  rcases h.2 with hn | ⟨g, cap, cur, hv, hg, rest⟩
  · exact .inl hn
  · exact .inr ⟨g, cap, cur, hv, Nat.le_trans hb hg, rest⟩

/-- The walk along a path, i steps on: the list that it has come to. -/
structure AlongAt (w : World) (Q : List Nat) (L : List Nd) (i : Nat) (names : List ByteArray) (l : List Nd) (v : Value) : Prop where
  le : i ≤ Q.length
  tr : Tree (· < w.heap.size) w l v
  ok : okP (Q.drop i) l
  ln : names.length = i
  nm : openL Q L = names ++ openL (Q.drop i) l
  en : endL Q L = endL (Q.drop i) l
  sz : szL l ≤ 100000
theorem AlongAt.start {w : World} {Q : List Nat} {L : List Nd} {v : Value} (hT : Tree (· < w.heap.size) w L v) (hok : okP Q L) (hsz : szL L ≤ 100000) : AlongAt w Q L 0 [] L v :=
  ⟨Nat.zero_le _, hT, hok, rfl, rfl, rfl, hsz⟩
theorem AlongAt.step {w : World} {Q : List Nat} {L l : List Nd} {i : Nat} {names : List ByteArray} {v : Value} (h : AlongAt w Q L i names l v) (hi : i < Q.length) :
    ∃ (k b o c : Nat) (m : Nd) (vk : Value), Q[i]? = some k ∧ v = .slice (some ⟨b, o, none⟩) l.length c ∧ k < l.length ∧ b < w.heap.size ∧ w.cell? ⟨b, o + k * 5 + 1, none⟩ = some (.string m.name) ∧ w.cell? ⟨b, o + k * 5 + 4, none⟩ = some vk ∧ AlongAt w Q L (i + 1) (names ++ [m.name]) m.kids vk := by
  obtain ⟨k, hk⟩ : ∃ k, Q[i]? = some k := ⟨_, List.getElem?_eq_getElem hi⟩
  have hd : Q.drop i = k :: Q.drop (i + 1) := by
    rw [List.drop_eq_getElem_cons hi]
    rw [List.getElem?_eq_getElem hi] at hk
    injection hk with hk
    rw [hk]
  have hok := h.ok
  rw [hd] at hok
  obtain ⟨m, hm, hok⟩ := hok
  have hkl := (List.getElem?_eq_some_iff.1 hm).1
  obtain ⟨b, o, c, hv, _, hb, hcell⟩ := h.tr.open_ (by omega)
  obtain ⟨va, vk, hat⟩ := hcell k m hm
  have hz := szL_at hm
  rw [szN_eq] at hz
  have hs := h.sz
  refine ⟨k, b, o, c, m, vk, hk, hv, hkl, hb, hat.c1, hat.c4, hi, hat.kids, hok, by rw [List.length_append, h.ln]; rfl, ?_, ?_, by omega⟩
  · rw [h.nm, hd]
    show names ++ (match l[k]? with | none => [] | some n => n.name :: openL (Q.drop (i + 1)) n.kids) = _
    rw [hm, List.append_assoc]
    rfl
  · rw [h.en, hd]
    show (match l[k]? with | none => [] | some n => endL (Q.drop (i + 1)) n.kids) = _
    rw [hm]

def CntRel (w : World) (Q : List Nat) (L : List Nd) (x y : Value) (wr : World) : Prop := ∃ i names l, y = .int .i64 (i : Nat) ∧ AlongAt w Q L i names l x ∧ Below w.heap.size w wr

set_option maxHeartbeats 1000000 in
set_option maxRecDepth 100000 in
theorem count7_any (L : List Nd) (Q : List Nat) (v vp : Value) (w : World) (hT : Tree (· < w.heap.size) w L v) (hP : PathAt (· < w.heap.size) w Q vp) (hok : okP Q L) (hsz : szL L ≤ 100000) (hq : Q.length ≤ 10000) :
    Calls Try.prog 31 #[v, vp] w fun e w' => e = .returned (.int .i64 (endL Q L).length) ∧ Below w.heap.size w w' := by
  have HA := Lib.hid (AlongAt.start hT hok hsz)
  obtain ⟨A, c, rfl, hc⟩ := hT.shape
  obtain ⟨Ap, cp, rfl, hcp, hPc⟩ := id hP
  have HP := Lib.hid hPc
  clear hT hP hPc hok hsz
  go_enter Try.func31, Try.ntmps31
  go_wp2_with fail
  go_loopw [0, 5] (fun x y wr => CntRel w Q L x y wr) (fun _ y _ => Q.length - (intOf y).toNat)
  case atStart => exact ⟨0, [], L, rfl, HA.out, Below.refl _ _⟩
  case round =>
    obtain ⟨i, names, l, rfl, hal, hbr⟩ := hrel
    have HAL := Lib.hid hal
    have hle := hal.le
    by_cases hlt : i < Q.length
    · obtain ⟨k, b, o, c9, m, vk, hk, rfl, hkl, hb, h1, h4, hnx⟩ := hal.step hlt
      obtain ⟨bp, op, rfl, hbp, hpc⟩ := HP.out (by rw [List.length_map]; omega)
      have p0 : wr.cell? ⟨bp, op + i, none⟩ = some (.int .i64 (k : Int)) := (hbr.cell (p := ⟨bp, op + i, none⟩) hbp).trans (hpc i _ (by rw [List.getElem?_map, hk]; rfl))
      have q4 : wr.cell? ⟨b, o + k * 5 + 4, none⟩ = some vk := (hbr.cell (p := ⟨b, o + k * 5 + 4, none⟩) hb).trans h4
      have HNX := Lib.hid hnx
      have i1 : (i : Int) < (Q.length : Int) := by omega
      have i2 : (k : Int) < (l.length : Int) := by omega
      clear hal hk h1 h4 hnx hpc
      go_wp2_with fail
      go_roundw
      case rel => exact ⟨i + 1, _, _, by go_num, HNX.out, hbr⟩
      case measure => simp [intOf]; omega
    · have hie : i = Q.length := by omega
      have HE := Lib.hid (show l = endL Q L by have := HAL.out.en; rw [hie, List.drop_length] at this; exact this.symm)
      obtain ⟨A9, c9, rfl, _⟩ := hal.tr.shape
      have i1 : ¬ ((i : Int) < (Q.length : Int)) := by omega
      clear hal
      go_wp2_with fail
      go_ret
      rw [← HE.out]
      exact ⟨rfl, hbr⟩

def OpnRel (w W0 : World) (Q : List Nat) (L : List Nd) (x y z : Value) (wr : World) : Prop := ∃ i names l, z = .int .i64 (i : Nat) ∧ AlongAt w Q L i names l y ∧ wr.ownsRow W0.heap.size 9 1 x i (names.map Value.string) ∧ Below W0.heap.size W0 wr

set_option maxHeartbeats 1000000 in
set_option maxRecDepth 100000 in
theorem open7_any (L : List Nd) (Q : List Nat) (v vp : Value) (w : World) (hT : Tree (· < w.heap.size) w L v) (hP : PathAt (· < w.heap.size) w Q vp) (hok : okP Q L) (hsz : szL L ≤ 100000) (hq : Q.length ≤ 10000) :
    Calls Try.prog 30 #[.agg #[v, vp]] w fun e w' => ∃ v', e = .returned v' ∧ w'.ownsRow w.heap.size 9 1 v' Q.length ((openL Q L).map Value.string) ∧ Below w.heap.size w w' := by
  have HA := Lib.hid (AlongAt.start hT hok hsz)
  obtain ⟨A, c, rfl, hc⟩ := hT.shape
  obtain ⟨Ap, cp, rfl, hcp, hPc⟩ := id hP
  have HP := Lib.hid hPc
  obtain ⟨i0, hi, hz0, hz1, hz2⟩ := info_parts info_str7
  have HI0 := Lib.hid (And.intro hi (And.intro hz0 (And.intro hz1 hz2)))
  clear hT hP hPc hok hsz hi hz0 hz1 hz2
  go_enter Try.func30, Try.ntmps30
  go_wp2_with fail
  obtain ⟨W0, hW0⟩ : ∃ W0, w.alloc (.cells #[.slice A L.length c, .slice Ap Q.length cp] 64) = W0 := ⟨_, rfl⟩
  have hb0 : Below w.heap.size w W0 := by rw [← hW0]; exact below_new _ _
  have hz0 : W0.heap.size = w.heap.size + 1 := by rw [← hW0, World.size_alloc]
  have y1 : W0.cell? ⟨w.heap.size, 1, none⟩ = some (.slice Ap Q.length cp) := by rw [← hW0]; simp
  rw [hW0]
  clear hW0
  go_loopw [3, 4, 5] (fun x y z wr => OpnRel w W0 Q L x y z wr) (fun _ _ z _ => Q.length - (intOf z).toNat)
  case atStart => exact ⟨0, [], L, rfl, HA.out, World.ownsRow_nil _ _ _ _, Below.refl _ _⟩
  case round =>
    obtain ⟨i, names, l, rfl, hal, hown, hbr0⟩ := hrel
    have hbr : Below w.heap.size w wr := below_after hb0 hbr0
    have y2 : wr.cell? ⟨w.heap.size, 1, none⟩ = some (.slice Ap Q.length cp) := (hbr0.cell (p := ⟨w.heap.size, 1, none⟩) (by show w.heap.size < W0.heap.size; omega)).trans y1
    have HAL := Lib.hid hal
    have hle := hal.le
    by_cases hlt : i < Q.length
    · obtain ⟨k, b, o, c9, m, vk, hk, rfl, hkl, hb, h1, h4, hnx⟩ := hal.step hlt
      obtain ⟨bp, op, rfl, hbp, hpc⟩ := HP.out (by rw [List.length_map]; omega)
      have p0 : wr.cell? ⟨bp, op + i, none⟩ = some (.int .i64 (k : Int)) := (hbr.cell (p := ⟨bp, op + i, none⟩) hbp).trans (hpc i _ (by rw [List.getElem?_map, hk]; rfl))
      have q1 : wr.cell? ⟨b, o + k * 5 + 1, none⟩ = some (.string m.name) := (hbr.cell (p := ⟨b, o + k * 5 + 1, none⟩) hb).trans h1
      have P0 := Lib.hid (hpc i _ (by rw [List.getElem?_map, hk]; rfl))
      have Q4 := Lib.hid h4
      have HNX := Lib.hid hnx
      have i1 : (i : Int) < (Q.length : Int) := by omega
      have i2 : (k : Int) < (l.length : Int) := by omega
      clear hal hk h1 h4 hnx hpc
      have HOWN := Lib.hid hown
      have HBR := Lib.hid hbr0
      have hwz := hbr0.size
      have hlt2 : b < wr.heap.size := Nat.lt_of_lt_of_le hb hbr.size
      have HLO := Lib.hid (fun g hg => hown.lt g hg)
      clear hown hbr0
      go_wp2_with (at_builtin; refine wpList_append_own _ rfl _ _ 45 rfl W0.heap.size 9 i0 (.string ⟨#[]⟩) 1 16 Try.underlying45 HI0.out.1 HI0.out.2.1 HI0.out.2.2.1 HI0.out.2.2.2 rfl (by decide) _ _ _ rfl (HOWN.out.alloc _) ⟨wr.heap.size, 0, none⟩ 1 1 [.string m.name] rfl rfl (new_one _ _ _) (by simp [Value.oneCell']) (by unfold maxLen; omega) (by omega) (by rw [World.size_alloc]; omega) ?_; intro v' w5 hown5 hg5 _; have hb5 : Below W0.heap.size W0 w5 := (HBR.out.alloc HBR.out.size _).grown hg5 (by rw [World.size_alloc]; omega) (fun g hg => (HLO.out g hg).1); have y5 : w5.cell? ⟨w.heap.size, 1, none⟩ = some (.slice (some ⟨bp, op, none⟩) Q.length cp) := (hb5.cell (p := ⟨w.heap.size, 1, none⟩) (by show w.heap.size < W0.heap.size; omega)).trans y1; have hb05 : Below w.heap.size w w5 := below_after hb0 hb5; have p5 : w5.cell? ⟨bp, op + i, none⟩ = some (.int .i64 (k : Int)) := (hb05.cell (p := ⟨bp, op + i, none⟩) hbp).trans P0.out; have q5 : w5.cell? ⟨b, o + k * 5 + 4, none⟩ = some vk := (hb05.cell (p := ⟨b, o + k * 5 + 4, none⟩) hb).trans Q4.out; have HOWN5 := Lib.hid hown5; clear hown5 hg5)
      go_roundw
      case rel => exact ⟨i + 1, _, _, by go_num, HNX.out, by rw [List.map_append]; exact HOWN5.out, hb5⟩
      case measure => simp [intOf]; omega
    · have hie : i = Q.length := by omega
      have HE := Lib.hid (show names = openL Q L by
        have := HAL.out.nm
        rw [hie, List.drop_length] at this
        rw [this]
        show _ = names ++ []
        rw [List.append_nil])
      have HOWN := Lib.hid hown
      have i1 : ¬ ((i : Int) < (Q.length : Int)) := by omega
      clear hal hown
      go_wp2_with fail
      go_ret
      have ho := HOWN.out
      rw [HE.out, hie] at ho
      exact ⟨_, rfl, own_base ho (by omega), hbr⟩

end Go.Proofs.Ytfdgmoakobjohaa
