/- strainerref03.good: words on memory for its inner loop, and for a region that makes an attribute in whatever order. -/
import Derived.Test.YtenjhfkdbmljnaaFewR
namespace Go.Proofs.Ytenjhfkdbmljnaa
open Go.RowKit
set_option linter.unusedVariables false

/-- The making of bytes out of a text, under a name. -/
def cvOp : Op := Op.convert 9 38 (.tmp 81)

theorem below_swap {a W : World} {o o' : Obj} (h : Below a.heap.size a (W.alloc o)) (hz : a.heap.size ≤ W.heap.size) : Below a.heap.size a (W.alloc o') :=
  ⟨h.os, h.tape, h.output, by have := h.size; simpa using this, fun k hk => by
    have h1 := h.block k hk
    have e : ∀ ob : Obj, (W.alloc ob).heap[k]? = W.heap[k]? := fun ob => Below.heap_alloc W ob k (by omega)
    rw [e] at h1 ⊢
    exact h1⟩
theorem below_n1 (W : World) (o : Obj) : Below W.drew.heap.size W.drew (W.alloc o).drew := below_new W.drew o
theorem below_n2 (W : World) (o : Obj) : Below W.drew.drew.heap.size W.drew.drew (W.alloc o).drew.drew := below_new W.drew.drew o
theorem below_c2 (W : World) (o : Obj) : Below W.drew.heap.size W.drew (W.alloc o).drew.drew := (below_new W.drew o).drew
theorem sits_step {w w' : World} {A : Option Addr} {xs : List Value} (h : Sits w w.heap.size A xs) (hb : Below w.heap.size w w') : Sits w' w'.heap.size A xs := (h.below hb).more hb.size
theorem sits_at {W : World} {s : ByteArray} {cap g : Nat} (hg : g = W.heap.size) :
    Sits (W.alloc (.cells (bytesRow s cap) 5 ((bytesRow s cap).size, (bytesRow s cap).size + 1))).drew (W.alloc (.cells (bytesRow s cap) 5 ((bytesRow s cap).size, (bytesRow s cap).size + 1))).drew.heap.size (some ⟨g, 0, none⟩) (Lib.byteCells s.data.toList) := by
  subst hg
  exact sits_now W s cap
theorem sits_at2 {W : World} {s : ByteArray} {cap g : Nat} (hg : g = W.heap.size) :
    Sits (W.alloc (.cells (bytesRow s cap) 5 ((bytesRow s cap).size, (bytesRow s cap).size + 1))).drew.drew (W.alloc (.cells (bytesRow s cap) 5 ((bytesRow s cap).size, (bytesRow s cap).size + 1))).drew.drew.heap.size (some ⟨g, 0, none⟩) (Lib.byteCells s.data.toList) :=
  sits_step (sits_at hg) ((Below.refl _ _).drew)

theorem regEnd_alloc {W w' : World} {x : ByteArray × ByteArray} {t u : ByteArray} {ty : TypeId} (hz : W.heap.size ≤ w'.heap.size) (ht : AttN x.1 t) (hu : isB u.data.toList = true)
    (htz : t.size ≤ x.1.size + 7) (huz : u.size ≤ 4 * x.2.size) (hb : Below W.heap.size W (w'.alloc (.cells #[.string t, .string u] ty))) : RegEnd W x (.pointer (some ⟨w'.heap.size, 0, none⟩)) (w'.alloc (.cells #[.string t, .string u] ty)) :=
  ⟨_, t, u, rfl, hz, by simp, by simp, ht, hu, htz, huz, hb⟩
theorem regEnd_set {W w' : World} {x : ByteArray × ByteArray} {t u : ByteArray} {g : Nat} (hz : W.heap.size ≤ g) (h0 : w'.cell? ⟨g, 0, none⟩ = some (.string ⟨#[]⟩)) (h1 : w'.cell? ⟨g, 1, none⟩ = some (.string ⟨#[]⟩)) (ht : AttN x.1 t) (hu : isB u.data.toList = true)
    (htz : t.size ≤ x.1.size + 7) (huz : u.size ≤ 4 * x.2.size) (hb : Below W.heap.size W ((w'.setCell ⟨g, 0, none⟩ (.string t)).setCell ⟨g, 1, none⟩ (.string u))) :
    RegEnd W x (.pointer (some ⟨g, 0, none⟩)) ((w'.setCell ⟨g, 0, none⟩ (.string t)).setCell ⟨g, 1, none⟩ (.string u)) := by
  refine ⟨_, t, u, rfl, hz, ?_, ?_, ht, hu, htz, huz, hb⟩
  · rw [World.cell?_setCell_other _ _ _ _ (by simp)]
    exact World.cell?_setCell_same _ _ _ h0
  · refine World.cell?_setCell_same _ _ _ (u := .string ⟨#[]⟩) ?_
    rw [World.cell?_setCell_other _ _ _ _ (by simp)]
    exact h1

theorem szA_take {l : List (ByteArray × ByteArray)} {j : Nat} {x : ByteArray × ByteArray} (h : l[j]? = some x) : szA (l.take (j + 1)) = szA (l.take j) + (10 + x.1.size + x.2.size) := by
  rw [List.take_add_one, h, szA_append]
  simp [szA]

theorem InGAt.skip {W0 wr w3 : World} {B j : Nat} {al a : List (ByteArray × ByteArray)} {va : Value} (h : InGAt W0 wr B al j a va) {x : ByteArray × ByteArray} (hx : al[j]? = some x) (hb : Below wr.heap.size wr w3) (hB : B < W0.heap.size) :
    InGAt W0 w3 B al (j + 1) a va := by
  have hBr : B < wr.heap.size := Nat.lt_of_lt_of_le hB h.hz
  refine ⟨(List.getElem?_eq_some_iff.1 hx).1, (hb.cell (p := ⟨B, 2, none⟩) hBr).trans h.c2, fun i hi => (hb.cell (p := ⟨B, i, none⟩) hBr).trans (h.ci i hi), (hb.frozen (p := ⟨B, 2, none⟩) hBr).trans h.fr,
    (hb.frozen (p := ⟨B, 4, none⟩) hBr).trans h.fr4, own_below h.own hb, h.ok, ?_, h.bel.trans (hb.mono (Nat.le_of_lt hBr)), Nat.le_trans h.hz hb.size, h.nm⟩
  have := h.sz
  rw [szA_take hx]
  omega

theorem attrsOK_snoc {a : List (ByteArray × ByteArray)} {t u : ByteArray} (h : attrsOK a) (ht : attrB t.data.toList = true) (hu : isB u.data.toList = true) (hn : ∀ y ∈ a, y.1 ≠ t) : attrsOK (a ++ [(t, u)]) := by
  refine ⟨fun y hy => ?_, ?_⟩
  · rcases List.mem_append.1 hy with hy | hy
    · exact h.1 y hy
    · simp at hy; subst hy; exact ⟨ht, hu⟩
  · rw [List.pairwise_append]
    refine ⟨h.2, by simp, fun y hy z hz => ?_⟩
    simp at hz
    subst hz
    exact hn y hy

/-- A cell is another one: no other block has turned. -/
theorem grown_set (W : World) (b i : Nat) (v : Value) : W.grownBy (W.setCell ⟨b, i, none⟩ v) (some b) :=
  ⟨rfl, rfl, rfl, by simp [World.setCell], fun k hk hne => by
    have : k ≠ b := fun e => hne (by rw [e])
    simp [World.setCell, Array.getElem?_modify, Ne.symm this]⟩

theorem InGAt.more {W0 wr w4 w5 : World} {B j : Nat} {al a : List (ByteArray × ByteArray)} {va v' : Value} (h : InGAt W0 wr B al j a va) {x : ByteArray × ByteArray} (hx : al[j]? = some x) (hb : Below wr.heap.size wr w4) (hB : B < W0.heap.size)
    {t u : ByteArray} (own' : w5.ownsRow W0.heap.size 35 2 v' (a.length + 1) (acells a ++ [.string t, .string u])) (hg : w4.grownBy w5 va.ownBlock)
    (ht : AttN x.1 t) (hu : isB u.data.toList = true) (htz : t.size ≤ x.1.size + 7) (huz : u.size ≤ 4 * x.2.size) (hn : valA a t = none) :
    InGAt W0 (w5.setCell ⟨B, 2, none⟩ v') B al (j + 1) (a ++ [(t, u)]) v' := by
  have hBr : B < wr.heap.size := Nat.lt_of_lt_of_le hB h.hz
  have hB4 : B < w4.heap.size := Nat.lt_of_lt_of_le hBr hb.size
  have hne : some B ≠ va.ownBlock := fun e => by
    have := (h.own.lt B e.symm).1
    omega
  have hbk : w5.heap[B]? = wr.heap[B]? := (hg.block B hB4 hne).trans (hb.block B hBr)
  have hc : ∀ i, w5.cell? ⟨B, i, none⟩ = wr.cell? ⟨B, i, none⟩ := fun i => World.cell?_of_block (a := ⟨B, i, none⟩) hbk
  have hf : ∀ i, w5.frozen? ⟨B, i, none⟩ = wr.frozen? ⟨B, i, none⟩ := fun i => by
    unfold World.frozen?
    rw [hbk]
  refine ⟨(List.getElem?_eq_some_iff.1 hx).1, World.cell?_setCell_same _ _ _ ((hc 2).trans h.c2), fun i hi => ?_, ?_, ?_, ?_, attrsOK_snoc h.ok ht.1 hu (valA_none.1 hn), ?_, ?_, ?_, ?_⟩
  · rw [World.cell?_setCell_other _ _ _ _ (fun e => hi (by injection e with _ e _; exact e.symm)), hc]
    exact h.ci i hi
  · rw [World.frozen?_setCell, hf]; exact h.fr
  · rw [World.frozen?_setCell, hf]; exact h.fr4
  · have e1 : (a ++ [(t, u)]).length = a.length + 1 := by simp
    have e2 : acells (a ++ [(t, u)]) = acells a ++ [.string t, .string u] := by rw [acells_append]; rfl
    rw [e1, e2]
    exact own'.kept (grown_set w5 B 2 v') (.inr fun e => by have := (own'.lt B e).1; omega)
  · have := h.sz
    rw [szA_append, szA_take hx]
    simp only [szA]
    omega
  · have h1 : Below B W0 w4 := h.bel.trans (hb.mono (Nat.le_of_lt hBr))
    exact (h1.grown hg (Nat.le_of_lt hB4) (fun k hk => by have := (h.own.lt k hk).1; omega)).setCell (p := ⟨B, 2, none⟩) (Nat.le_refl _) _
  · have := hg.size
    have := hb.size
    have := h.hz
    simp
    omega
  · intro y hy
    rcases List.mem_append.1 hy with hy | hy
    · exact h.nm y hy
    · simp at hy
      subst hy
      exact ⟨x, List.mem_of_getElem? hx, ht⟩

/-- Another block's cells, behind an append to a row of the call's own. -/
theorem far_two {w w' w0 : World} {B base : Nat} {v : Value} {n : Nat} {e : TypeId} {s : Nat} {xs : List Value} (hg : w.grownBy w' v.ownBlock) (h : w0.ownsRow base e s v n xs) (hB : B < base) (hz : B < w.heap.size) :
    (∀ i, w'.cell? ⟨B, i, none⟩ = w.cell? ⟨B, i, none⟩) ∧ ∀ i, w'.frozen? ⟨B, i, none⟩ = w.frozen? ⟨B, i, none⟩ := by
  have hbk : w'.heap[B]? = w.heap[B]? := hg.block B hz (fun e => by have := (h.lt B e.symm).1; omega)
  refine ⟨fun i => World.cell?_of_block (a := ⟨B, i, none⟩) hbk, fun i => ?_⟩
  unfold World.frozen?
  rw [hbk]

/-- A call's own attributes, as they can be read. -/
theorem own_attrs {w : World} {base : Nat} {l : List (ByteArray × ByteArray)} {v : Value} (h : w.ownsRow base 35 2 v l.length (acells l)) : AttrsAt (fun b => v.ownBlock = some b) w l v := by
  obtain ⟨A, c, rfl, hc⟩ := own_size h
  exact ⟨A, c, rfl, hc, Cells.own h⟩

/-- What a new element is put together of lies where it may. -/
theorem good_kept {w wo W0 wr w1 : World} {out G : List Nd} {v0 va vG : Value} {a al : List (ByteArray × ByteArray)} {j : Nat} (hown : OwnC wo w.heap.size w.heap.size out v0) (hbel : Below w.heap.size w wo)
    (hB0 : Below wo.heap.size wo W0) (hz : wo.heap.size < W0.heap.size) (HI : InGAt W0 wr wo.heap.size al j a va) (hb1 : Below wr.heap.size wr w1) (hG : OwnC w1 wr.heap.size wr.heap.size G vG) :
    Below w.heap.size w (w1.setCell ⟨wo.heap.size, 4, none⟩ vG) ∧ ∀ ob : Obj, OwnC ((w1.setCell ⟨wo.heap.size, 4, none⟩ vG).alloc ob) w.heap.size w.heap.size out v0 ∧
      AttrsAt (Sub w.heap.size ((w1.setCell ⟨wo.heap.size, 4, none⟩ vG).alloc ob) v0) ((w1.setCell ⟨wo.heap.size, 4, none⟩ vG).alloc ob) a va ∧
      Tree (Sub w.heap.size ((w1.setCell ⟨wo.heap.size, 4, none⟩ vG).alloc ob) v0) ((w1.setCell ⟨wo.heap.size, 4, none⟩ vG).alloc ob) G vG := by
  have h1 := HI.hz
  have h2 := hb1.size
  have h3 := hbel.size
  have hs : (w1.setCell ⟨wo.heap.size, 4, none⟩ vG).heap.size = w1.heap.size := by simp
  have hbo : Below wo.heap.size wo (w1.setCell ⟨wo.heap.size, 4, none⟩ vG) := ((hB0.trans HI.bel).trans (hb1.mono (by omega))).setCell (p := ⟨wo.heap.size, 4, none⟩) (Nat.le_refl _) _
  have far : ∀ (ob : Obj) (b : Nat), b ≠ wo.heap.size → b < w1.heap.size → ∀ i, ((w1.setCell ⟨wo.heap.size, 4, none⟩ vG).alloc ob).cell? ⟨b, i, none⟩ = w1.cell? ⟨b, i, none⟩ := by
    intro ob b hb hlt i
    rw [World.cell?_alloc_past _ _ _ (by rw [hs]; exact hlt), World.cell?_setCell_far _ _ _ _ (fun e => hb e.symm)]
  have hlt0 := OwnT.lt hown
  refine ⟨hbel.trans (hbo.mono h3), fun ob => ⟨OwnC.later hown (hbo.alloc (by rw [hs]; omega) ob), ?_, ?_⟩⟩
  · refine ((own_attrs HI.own).keep (fun b hb i => ?_)).mono fun b hb => ?_
    · have := HI.own.lt b hb
      rw [far ob b (by omega) (by omega)]
      exact hb1.cell (p := ⟨b, i, none⟩) this.2
    · have h4 := HI.own.lt b hb
      refine ⟨by omega, ?_, fun e => ?_⟩
      · rw [World.size_alloc, hs]; omega
      · have := hlt0 b e; omega
  · refine ((OwnC.tree hG (Nat.le_refl _)).keep (fun b hb i => far ob b (by omega) hb.2 i)).mono fun b hb => ?_
    refine ⟨by omega, ?_, fun e => ?_⟩
    · rw [World.size_alloc, hs]; omega
    · have := hlt0 b e; omega

end Go.Proofs.Ytenjhfkdbmljnaa
