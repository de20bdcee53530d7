/- Parts of the proof, in build order: GoodH GoodR Good StdR StdS Good6 MayO May StaR Mdl TkPM TkA Shelf TkB TkC TkD Fold Prefix TkE. -/
import Derived.Test.YtfdgmoakobjohaaK10
import Derived.Test.YtfdgmoakobjohaaK11
import Derived.Deep.RegionHeld3
import Derived.Deep.RegionWith
import Derived.Deep.DeepCutAuto
import Derived.StillTailTactics
import Derived.Test.YtfdgmoakobjohaaK09
import Derived.Test.YtfdgmoakobjohaaK04
import Derived.Test.YtfdgmoakobjohaaK01
import Derived.Lib.IndexMore
import Derived.Deep.QuietTactic
import Derived.BigQuiet
import Derived.Shelf.Strings.Builder1
import Derived.Shelf.Strings.BuilderF
import Derived.Shelf.Strings.BuilderK
import Derived.Shelf.Strings.BuilderCap
import Derived.Test.YtfdgmoakobjohaaProg
import Derived.Lib.Small
import Derived.Test.YtfdgmoakobjohaaK08
import Derived.Laws.Runes
import Derived.WalkMore
import Derived.Test.YtfdgmoakobjohaaK03
import Derived.WalkKit
import Derived.WalkSpells
import Derived.WalkLawsBesides
import Derived.Lib.Hide
import Derived.Laws.IdiomStrings

/- Part GoodH. -/
namespace Go.Proofs.Ytfdgmoakobjohaa
open Go.RowKit
set_option linter.unusedVariables false

/-- The making of bytes out of a text, under a name. -/
def cvOp : Op := Op.convert 9 49 (.tmp 81)

theorem below_swap {a W : World} {o o' : Obj} (h : Below a.heap.size a (W.alloc o)) (hz : a.heap.size ≤ W.heap.size) : Below a.heap.size a (W.alloc o') :=
  ⟨h.os, h.tape, h.output, by have := h.size; simpa using this, fun k hk => by
    have h1 := h.block k hk
    have e : ∀ ob : Obj, (W.alloc ob).heap[k]? = W.heap[k]? := fun ob => Below.heap_alloc W ob k (by omega)
    rw [e] at h1 ⊢
    exact h1⟩
theorem below_n1 (W : World) (o : Obj) : Below W.drew.heap.size W.drew (W.alloc o).drew := below_new W.drew o
theorem below_n2 (W : World) (o : Obj) : Below W.drew.drew.heap.size W.drew.drew (W.alloc o).drew.drew := below_new W.drew.drew o
theorem below_c2 (W : World) (o : Obj) : Below W.drew.heap.size W.drew (W.alloc o).drew.drew := (below_new W.drew o).drew
theorem sits_step {w w' : World} {A : Option Addr} {xs : List Value} (h : Sits w w.heap.size A xs) (hb : Below w.heap.size w w') : Sits w' w'.heap.size A xs := (h.below hb).more hb.size
theorem sits_at {W : World} {s : ByteArray} {cap g : Nat} (hg : g = W.heap.size) :
    Sits (W.alloc (.cells (bytesRow s cap) 5 ((bytesRow s cap).size, (bytesRow s cap).size + 1))).drew (W.alloc (.cells (bytesRow s cap) 5 ((bytesRow s cap).size, (bytesRow s cap).size + 1))).drew.heap.size (some ⟨g, 0, none⟩) (Lib.byteCells s.data.toList) := by
  subst hg
  exact sits_now W s cap
theorem sits_at2 {W : World} {s : ByteArray} {cap g : Nat} (hg : g = W.heap.size) :
    Sits (W.alloc (.cells (bytesRow s cap) 5 ((bytesRow s cap).size, (bytesRow s cap).size + 1))).drew.drew (W.alloc (.cells (bytesRow s cap) 5 ((bytesRow s cap).size, (bytesRow s cap).size + 1))).drew.drew.heap.size (some ⟨g, 0, none⟩) (Lib.byteCells s.data.toList) :=
  sits_step (sits_at hg) ((Below.refl _ _).drew)

theorem regEnd_alloc {W w' : World} {x : ByteArray × ByteArray} {t u : ByteArray} {ty : TypeId} (hz : W.heap.size ≤ w'.heap.size) (ht : AttN x.1 t) (hu : isB u.data.toList = true)
    (htz : t.size ≤ x.1.size + 7) (huz : u.size ≤ 4 * x.2.size) (hb : Below W.heap.size W (w'.alloc (.cells #[.string t, .string u] ty))) : RegEnd W x (.pointer (some ⟨w'.heap.size, 0, none⟩)) (w'.alloc (.cells #[.string t, .string u] ty)) :=
  ⟨_, t, u, rfl, hz, by simp, by simp, ht, hu, htz, huz, hb⟩
theorem regEnd_set {W w' : World} {x : ByteArray × ByteArray} {t u : ByteArray} {g : Nat} (hz : W.heap.size ≤ g) (h0 : w'.cell? ⟨g, 0, none⟩ = some (.string ⟨#[]⟩)) (h1 : w'.cell? ⟨g, 1, none⟩ = some (.string ⟨#[]⟩)) (ht : AttN x.1 t) (hu : isB u.data.toList = true)
    (htz : t.size ≤ x.1.size + 7) (huz : u.size ≤ 4 * x.2.size) (hb : Below W.heap.size W ((w'.setCell ⟨g, 0, none⟩ (.string t)).setCell ⟨g, 1, none⟩ (.string u))) :
    RegEnd W x (.pointer (some ⟨g, 0, none⟩)) ((w'.setCell ⟨g, 0, none⟩ (.string t)).setCell ⟨g, 1, none⟩ (.string u)) := by
  refine ⟨_, t, u, rfl, hz, ?_, ?_, ht, hu, htz, huz, hb⟩
  · rw [World.cell?_setCell_other _ _ _ _ (by simp)]
    exact World.cell?_setCell_same _ _ _ h0
  · refine World.cell?_setCell_same _ _ _ (u := .string ⟨#[]⟩) ?_
    rw [World.cell?_setCell_other _ _ _ _ (by simp)]
    exact h1

theorem szA_take {l : List (ByteArray × ByteArray)} {j : Nat} {x : ByteArray × ByteArray} (h : l[j]? = some x) : szA (l.take (j + 1)) = szA (l.take j) + (10 + x.1.size + x.2.size) := by
  rw [List.take_add_one, h, szA_append]
  simp [szA]

theorem InGAt.skip {W0 wr w3 : World} {B j : Nat} {al a : List (ByteArray × ByteArray)} {va : Value} (h : InGAt W0 wr B al j a va) {x : ByteArray × ByteArray} (hx : al[j]? = some x) (hb : Below wr.heap.size wr w3) (hB : B < W0.heap.size) :
    InGAt W0 w3 B al (j + 1) a va := by
  have hBr : B < wr.heap.size := Nat.lt_of_lt_of_le hB h.hz
  refine ⟨(List.getElem?_eq_some_iff.1 hx).1, (hb.cell (p := ⟨B, 2, none⟩) hBr).trans h.c2, fun i hi => (hb.cell (p := ⟨B, i, none⟩) hBr).trans (h.ci i hi), (hb.frozen (p := ⟨B, 2, none⟩) hBr).trans h.fr,
    (hb.frozen (p := ⟨B, 4, none⟩) hBr).trans h.fr4, own_below h.own hb, h.ok, ?_, h.bel.trans (hb.mono (Nat.le_of_lt hBr)), Nat.le_trans h.hz hb.size, h.nm⟩
  have := h.sz
  rw [szA_take hx]
  omega

theorem attrsOK_snoc {a : List (ByteArray × ByteArray)} {t u : ByteArray} (h : attrsOK a) (ht : attrB t.data.toList = true) (hu : isB u.data.toList = true) (hn : ∀ y ∈ a, y.1 ≠ t) : attrsOK (a ++ [(t, u)]) := by
  refine ⟨fun y hy => ?_, ?_⟩
  · rcases List.mem_append.1 hy with hy | hy
    · exact h.1 y hy
    · simp at hy; subst hy; exact ⟨ht, hu⟩
  · rw [List.pairwise_append]
    refine ⟨h.2, by simp, fun y hy z hz => ?_⟩
    simp at hz
    subst hz
    exact hn y hy

/-- A cell is another one: no other block has turned. -/
theorem grown_set (W : World) (b i : Nat) (v : Value) : W.grownBy (W.setCell ⟨b, i, none⟩ v) (some b) :=
  ⟨rfl, rfl, rfl, by simp [World.setCell], fun k hk hne => by
    have : k ≠ b := fun e => hne (by rw [e])
    simp [World.setCell, Array.getElem?_modify, Ne.symm this]⟩

theorem InGAt.more {W0 wr w4 w5 : World} {B j : Nat} {al a : List (ByteArray × ByteArray)} {va v' : Value} (h : InGAt W0 wr B al j a va) {x : ByteArray × ByteArray} (hx : al[j]? = some x) (hb : Below wr.heap.size wr w4) (hB : B < W0.heap.size)
    {t u : ByteArray} (own' : w5.ownsRow W0.heap.size 39 2 v' (a.length + 1) (acells a ++ [.string t, .string u])) (hg : w4.grownBy w5 va.ownBlock)
    (ht : AttN x.1 t) (hu : isB u.data.toList = true) (htz : t.size ≤ x.1.size + 7) (huz : u.size ≤ 4 * x.2.size) (hn : valA a t = none) :
    InGAt W0 (w5.setCell ⟨B, 2, none⟩ v') B al (j + 1) (a ++ [(t, u)]) v' := by
  have hBr : B < wr.heap.size := Nat.lt_of_lt_of_le hB h.hz
  have hB4 : B < w4.heap.size := Nat.lt_of_lt_of_le hBr hb.size
  have hne : some B ≠ va.ownBlock := fun e => by
    have := (h.own.lt B e.symm).1
    omega
  have hbk : w5.heap[B]? = wr.heap[B]? := (hg.block B hB4 hne).trans (hb.block B hBr)
  have hc : ∀ i, w5.cell? ⟨B, i, none⟩ = wr.cell? ⟨B, i, none⟩ := fun i => World.cell?_of_block (a := ⟨B, i, none⟩) hbk
  have hf : ∀ i, w5.frozen? ⟨B, i, none⟩ = wr.frozen? ⟨B, i, none⟩ := fun i => by
    unfold World.frozen?
    rw [hbk]
  refine ⟨(List.getElem?_eq_some_iff.1 hx).1, World.cell?_setCell_same _ _ _ ((hc 2).trans h.c2), fun i hi => ?_, ?_, ?_, ?_, attrsOK_snoc h.ok ht.1 hu (valA_none.1 hn), ?_, ?_, ?_, ?_⟩
  · rw [World.cell?_setCell_other _ _ _ _ (fun e => hi (by injection e with _ e _; exact e.symm)), hc]
    exact h.ci i hi
  · rw [World.frozen?_setCell, hf]; exact h.fr
  · rw [World.frozen?_setCell, hf]; exact h.fr4
  · have e1 : (a ++ [(t, u)]).length = a.length + 1 := by simp
    have e2 : acells (a ++ [(t, u)]) = acells a ++ [.string t, .string u] := by rw [acells_append]; rfl
    rw [e1, e2]
    exact own'.kept (grown_set w5 B 2 v') (.inr fun e => by have := (own'.lt B e).1; omega)
  · have := h.sz
    rw [szA_append, szA_take hx]
    simp only [szA]
    omega
  · have h1 : Below B W0 w4 := h.bel.trans (hb.mono (Nat.le_of_lt hBr))
    exact (h1.grown hg (Nat.le_of_lt hB4) (fun k hk => by have := (h.own.lt k hk).1; omega)).setCell (p := ⟨B, 2, none⟩) (Nat.le_refl _) _
  · have := hg.size
    have := hb.size
    have := h.hz
    simp
    omega
  · intro y hy
    rcases List.mem_append.1 hy with hy | hy
    · exact h.nm y hy
    · simp at hy
      subst hy
      exact ⟨x, List.mem_of_getElem? hx, ht⟩

/-- Another block's cells, behind an append to a row of the call's own. -/
theorem far_two {w w' w0 : World} {B base : Nat} {v : Value} {n : Nat} {e : TypeId} {s : Nat} {xs : List Value} (hg : w.grownBy w' v.ownBlock) (h : w0.ownsRow base e s v n xs) (hB : B < base) (hz : B < w.heap.size) :
    (∀ i, w'.cell? ⟨B, i, none⟩ = w.cell? ⟨B, i, none⟩) ∧ ∀ i, w'.frozen? ⟨B, i, none⟩ = w.frozen? ⟨B, i, none⟩ := by
  have hbk : w'.heap[B]? = w.heap[B]? := hg.block B hz (fun e => by have := (h.lt B e.symm).1; omega)
  refine ⟨fun i => World.cell?_of_block (a := ⟨B, i, none⟩) hbk, fun i => ?_⟩
  unfold World.frozen?
  rw [hbk]

/-- A call's own attributes, as they can be read. -/
theorem own_attrs {w : World} {base : Nat} {l : List (ByteArray × ByteArray)} {v : Value} (h : w.ownsRow base 39 2 v l.length (acells l)) : AttrsAt (fun b => v.ownBlock = some b) w l v := by
  obtain ⟨A, c, rfl, hc⟩ := own_size h
  exact ⟨A, c, rfl, hc, Cells.own h⟩

/-- What a new element is put together of lies where it may. -/
theorem good_kept {w wo W0 wr w1 : World} {out G : List Nd} {v0 va vG : Value} {a al : List (ByteArray × ByteArray)} {j : Nat} (hown : OwnC wo w.heap.size w.heap.size out v0) (hbel : Below w.heap.size w wo)
    (hB0 : Below wo.heap.size wo W0) (hz : wo.heap.size < W0.heap.size) (HI : InGAt W0 wr wo.heap.size al j a va) (hb1 : Below wr.heap.size wr w1) (hG : OwnC w1 wr.heap.size wr.heap.size G vG) :
    Below w.heap.size w (w1.setCell ⟨wo.heap.size, 4, none⟩ vG) ∧ ∀ ob : Obj, OwnC ((w1.setCell ⟨wo.heap.size, 4, none⟩ vG).alloc ob) w.heap.size w.heap.size out v0 ∧
      AttrsAt (Sub w.heap.size ((w1.setCell ⟨wo.heap.size, 4, none⟩ vG).alloc ob) v0) ((w1.setCell ⟨wo.heap.size, 4, none⟩ vG).alloc ob) a va ∧
      Tree (Sub w.heap.size ((w1.setCell ⟨wo.heap.size, 4, none⟩ vG).alloc ob) v0) ((w1.setCell ⟨wo.heap.size, 4, none⟩ vG).alloc ob) G vG := by
  have h1 := HI.hz
  have h2 := hb1.size
  have h3 := hbel.size
  have hs : (w1.setCell ⟨wo.heap.size, 4, none⟩ vG).heap.size = w1.heap.size := by simp
  have hbo : Below wo.heap.size wo (w1.setCell ⟨wo.heap.size, 4, none⟩ vG) := ((hB0.trans HI.bel).trans (hb1.mono (by omega))).setCell (p := ⟨wo.heap.size, 4, none⟩) (Nat.le_refl _) _
  have far : ∀ (ob : Obj) (b : Nat), b ≠ wo.heap.size → b < w1.heap.size → ∀ i, ((w1.setCell ⟨wo.heap.size, 4, none⟩ vG).alloc ob).cell? ⟨b, i, none⟩ = w1.cell? ⟨b, i, none⟩ := by
    intro ob b hb hlt i
    rw [World.cell?_alloc_past _ _ _ (by rw [hs]; exact hlt), World.cell?_setCell_far _ _ _ _ (fun e => hb e.symm)]
  have hlt0 := OwnT.lt hown
  refine ⟨hbel.trans (hbo.mono h3), fun ob => ⟨OwnC.later hown (hbo.alloc (by rw [hs]; omega) ob), ?_, ?_⟩⟩
  · refine ((own_attrs HI.own).keep (fun b hb i => ?_)).mono fun b hb => ?_
    · have := HI.own.lt b hb
      rw [far ob b (by omega) (by omega)]
      exact hb1.cell (p := ⟨b, i, none⟩) this.2
    · have h4 := HI.own.lt b hb
      refine ⟨by omega, ?_, fun e => ?_⟩
      · rw [World.size_alloc, hs]; omega
      · have := hlt0 b e; omega
  · refine ((OwnC.tree hG (Nat.le_refl _)).keep (fun b hb i => far ob b (by omega) hb.2 i)).mono fun b hb => ?_
    refine ⟨by omega, ?_, fun e => ?_⟩
    · rw [World.size_alloc, hs]; omega
    · have := hlt0 b e; omega

end Go.Proofs.Ytfdgmoakobjohaa

/- Part GoodR. -/
namespace Go.Proofs.Ytfdgmoakobjohaa
open Go.RowKit
set_option linter.unusedVariables false
set_option linter.unusedSimpArgs false

attribute [local go_sem] cvOp

end Go.Proofs.Ytfdgmoakobjohaa

/- Part Good. -/
namespace Go.Proofs.Ytfdgmoakobjohaa
open Go.RowKit
set_option linter.unusedVariables false

theorem OwnC.lower {w : World} {base lo base' lo' : Nat} {l : List Nd} {v : Value} (h : OwnC w base lo l v) (hb : base' ≤ base) (hl : lo' ≤ lo) : OwnC w base' lo' l v := by
  obtain ⟨R, h1, h2, h3, h4, _⟩ := h
  exact ⟨R, h1, own_more h2 hb, fun r hr => (h3 r hr).mono fun b hb => ⟨Nat.le_trans hl hb.1, hb.2⟩, fun r hr => (h4 r hr).mono fun b hb => ⟨Nat.le_trans hl hb.1, hb.2⟩, fun g hg hs => hs.2.2 hg⟩

/-- What Good tells: nodes that may be, of the call's own, of a bounded size. -/
def GoodEnd (w : World) (e : Ending) (w' : World) : Prop :=
  ∃ (G : List Nd) (v : Value), e = .returned v ∧ OwnC w' w.heap.size w.heap.size G v ∧ GoodL G ∧ szL G ≤ 67200 ∧ Below w.heap.size w w'

/-- .. and it keeps the shape of a list of plain elements. -/
def GoodEndK (w : World) (l : List Nd) (e : Ending) (w' : World) : Prop :=
  ∃ (G : List Nd) (v : Value), e = .returned v ∧ OwnC w' w.heap.size w.heap.size G v ∧ GoodL G ∧ szL G ≤ 67200 ∧ Below w.heap.size w w' ∧ Kp l G

theorem Kp.trans {a b c : List Nd} (h : Kp a b) (h2 : Kp b c) : Kp a c := ⟨fun x => h2.1 (h.1 x), fun x => h2.2 (h.2 x)⟩

end Go.Proofs.Ytfdgmoakobjohaa

/- Part StdR. -/
namespace Go.Proofs.Ytfdgmoakobjohaa
open Go.RowKit
set_option linter.unusedVariables false

structure FtAt (P : Nat → Prop) (w wr : World) (p : List UInt8) (l : List Nd) (k : Nat) (v : Value) : Prop where
  le : k ≤ l.length
  own : OwnK wr w.heap.size P ((l.take k).filter (fitsB p)) v
  bel : Below w.heap.size w wr
def FtRel (P : Nat → Prop) (w : World) (p : List UInt8) (l : List Nd) (x y : Value) (wr : World) : Prop := ∃ k : Nat, y = .int .i64 k ∧ FtAt P w wr p l k x

theorem filter_snoc {q : Nd → Bool} {l : List Nd} {k : Nat} {n : Nd} (h : l[k]? = some n) : (l.take (k + 1)).filter q = (l.take k).filter q ++ (if q n = true then [n] else []) := by
  rw [List.take_add_one, h, List.filter_append]
  simp only [Option.toList_some, List.filter_cons, List.filter_nil]
theorem filter_len (q : Nd → Bool) (l : List Nd) (k : Nat) : ((l.take k).filter q).length ≤ l.length := Nat.le_trans (List.length_filter_le _ _) (by rw [List.length_take]; omega)

end Go.Proofs.Ytfdgmoakobjohaa

/- Part StdS. -/
namespace Go.Proofs.Ytfdgmoakobjohaa
open Go.RowKit
set_option linter.unusedVariables false
set_option linter.unusedSimpArgs false

/-- A box with n's cells, and other kids; what lies below it stays. -/
structure KdEnd (P : Nat → Prop) (nb : Nat) (n : Nd) (va : Value) (ks : List Nd) (wr wx : World) : Prop where
  c0 : wx.cell? ⟨nb, 0, none⟩ = some (.int .i64 n.kind)
  c1 : wx.cell? ⟨nb, 1, none⟩ = some (.string n.name)
  c2 : wx.cell? ⟨nb, 2, none⟩ = some va
  c3 : wx.cell? ⟨nb, 3, none⟩ = some (.string n.text)
  ex : ∃ A c, wx.cell? ⟨nb, 4, none⟩ = some (.slice A ks.length c) ∧ Tree (fun b => P b ∧ b < wx.heap.size) wx ks (.slice A ks.length c)
  bel : Below nb wr wx
  lt : nb < wx.heap.size
/-- The box, behind calls that only make new blocks. -/
def BoxIn (nb : Nat) (n : Nd) (va vk : Value) (W : World) : Prop :=
  W.cell? ⟨nb, 0, none⟩ = some (.int .i64 n.kind) ∧ W.cell? ⟨nb, 1, none⟩ = some (.string n.name) ∧ W.cell? ⟨nb, 2, none⟩ = some va ∧ W.cell? ⟨nb, 3, none⟩ = some (.string n.text) ∧ W.cell? ⟨nb, 4, none⟩ = some vk ∧ W.frozen? ⟨nb, 4, none⟩ = false
theorem BoxIn.keep {nb : Nat} {n : Nd} {va vk : Value} {W W' : World} (h : BoxIn nb n va vk W) (hn : nb < W.heap.size) (hb : Below W.heap.size W W') : BoxIn nb n va vk W' :=
  ⟨(hb.cell (p := ⟨nb, 0, none⟩) hn).trans h.1, (hb.cell (p := ⟨nb, 1, none⟩) hn).trans h.2.1, (hb.cell (p := ⟨nb, 2, none⟩) hn).trans h.2.2.1, (hb.cell (p := ⟨nb, 3, none⟩) hn).trans h.2.2.2.1, (hb.cell (p := ⟨nb, 4, none⟩) hn).trans h.2.2.2.2.1, (hb.frozen (p := ⟨nb, 4, none⟩) hn).trans h.2.2.2.2.2⟩
theorem kdEnd_of {P : Nat → Prop} {nb : Nat} {n : Nd} {va vk : Value} {ks : List Nd} {wr w1 W : World} {A : Option Addr} {c : Nat} (hP : ¬ P nb) (hw1 : Below nb wr w1) (hn : nb < w1.heap.size) (hbox : BoxIn nb n va vk w1) (hB : Below w1.heap.size w1 W)
    (hT : Tree (fun b => P b ∧ b < W.heap.size) W ks (.slice A ks.length c)) : KdEnd P nb n va ks wr (W.setCell ⟨nb, 4, none⟩ (.slice A ks.length c)) := by
  obtain ⟨b0, b1, b2, b3, b4, b5⟩ := hbox.keep hn hB
  have hsz : (W.setCell ⟨nb, 4, none⟩ (.slice A ks.length c)).heap.size = W.heap.size := by simp
  refine ⟨?_, ?_, ?_, ?_, ⟨A, c, ?_, ?_⟩, ?_, ?_⟩
  · rw [World.cell?_setCell_other _ _ _ _ (by simp)]; exact b0
  · rw [World.cell?_setCell_other _ _ _ _ (by simp)]; exact b1
  · rw [World.cell?_setCell_other _ _ _ _ (by simp)]; exact b2
  · rw [World.cell?_setCell_other _ _ _ _ (by simp)]; exact b3
  · exact World.cell?_setCell_same _ _ _ b4
  · rw [hsz]
    refine hT.keep fun b hb j => ?_
    refine World.cell?_setCell_other _ _ _ _ ?_
    intro e
    injection e with e
    subst e
    exact hP hb.1
  · exact (hw1.trans (hB.mono (Nat.le_of_lt hn))).setCell (p := ⟨nb, 4, none⟩) (Nat.le_refl _) _
  · rw [hsz]
    exact Nat.lt_of_lt_of_le hn hB.size

structure SdAt (P : Nat → Prop) (w wr : World) (l : List Nd) (k : Nat) (v : Value) : Prop where
  le : k ≤ l.length
  own : OwnK wr w.heap.size P (stdT (l.take k)) v
  bel : Below w.heap.size w wr
def SdRel (P : Nat → Prop) (w : World) (l : List Nd) (x y : Value) (wr : World) : Prop := ∃ k : Nat, y = .int .i64 k ∧ SdAt P w wr l k x
theorem std_snoc {l : List Nd} {k : Nat} {n : Nd} (h : l[k]? = some n) : stdT (l.take (k + 1)) = stdT (l.take k) ++ (if okC n = true then [stdN n] else []) := by
  unfold stdT
  rw [filter_snoc h, List.map_append]
  cases okC n <;> rfl
theorem std_len (l : List Nd) (k : Nat) : (stdT (l.take k)).length ≤ l.length := by unfold stdT; rw [List.length_map]; exact filter_len _ _ _
theorem std_sz (l : List Nd) : szL (stdT l) ≤ szL l := by
  unfold stdT
  refine Nat.le_trans ?_ (szL_filter okC l)
  generalize l.filter okC = m
  induction m with
  | nil => simp
  | cons x m ihm =>
    rw [List.map_cons, szL_cons, szL_cons]
    have hx : szN (stdN x) ≤ szN x := by
      by_cases h1 : x.kind = 1
      · rw [stdN_elem h1, szN_mk, szN_eq x]
        have h2 := szL_filter (fitsB x.name.data.toList) x.kids
        have h3 := steady_sz (x.kids.filter (fitsB x.name.data.toList))
        have h4 := szL_filter (fitsB x.name.data.toList) (steadyB (x.kids.filter (fitsB x.name.data.toList)))
        omega
      · rw [stdN_other h1]
        exact Nat.le_refl _
    omega

end Go.Proofs.Ytfdgmoakobjohaa

/- Part Good6. -/
namespace Go.Proofs.Ytfdgmoakobjohaa
open Go.RowKit
set_option linter.unusedVariables false

/-- Stable nodes, made of any: new ones, and what they weigh. -/
def StableEnd (w : World) (e : Ending) (w' : World) : Prop :=
  ∃ G v', e = .returned v' ∧ Tree (fun b => w.heap.size ≤ b ∧ b < w'.heap.size) w' (steadyB G) v' ∧ GoodL G ∧ szL G ≤ 67200 ∧ Below w.heap.size w w'

end Go.Proofs.Ytfdgmoakobjohaa

/- Part MayO. -/
namespace Go.Proofs.Ytfdgmoakobjohaa
open Go.RowKit
set_option linter.unusedVariables false

theorem empty_iff (s : ByteArray) : s.toList.isEmpty = decide (s.data.toList = []) := by
  rw [Lib.toList_data]
  cases h : s.data.toList with
  | nil => rfl
  | cons a b => simp

theorem if_iff {α : Type} {P Q : Prop} [Decidable P] [Decidable Q] (h : P ↔ Q) (a b : α) : (if P then a else b) = if Q then a else b := by
  by_cases p : P
  · rw [if_pos p, if_pos (h.1 p)]
  · rw [if_neg p, if_neg fun q => p (h.2 q)]

end Go.Proofs.Ytfdgmoakobjohaa

/- Part May. -/
namespace Go.Proofs.Ytfdgmoakobjohaa
open Go.RowKit
set_option linter.unusedVariables false

/-- Does a text stand ahead of node k? -/
def prevT (l : List Nd) : Nat → Bool
  | 0 => false
  | k + 1 => (l[k]?.map fun n => n.kind == 2).getD false
theorem prevT_one {l : List Nd} {k : Nat} {n : Nd} (h : l[k]? = some n) : prevT l (k + 1) = (n.kind == 2) := by simp [prevT, h]
structure MayAt (w wr : World) (l : List Nd) (k : Nat) : Prop where
  le : k ≤ l.length
  is : mayL false l = mayL (prevT l k) (l.drop k)
  bel : Below w.heap.size w wr
def MayRel (w : World) (l : List Nd) (x : Value) (wr : World) : Prop := ∃ k : Nat, x = .int .i64 k ∧ MayAt w wr l k

theorem may_step {l : List Nd} {k : Nat} {n : Nd} (h : l[k]? = some n) (b : Bool) : mayL b (l.drop k) = if nodeE b n = 0 then (if mayL false n.kids = 0 then mayL (prevT l (k + 1)) (l.drop (k + 1)) else mayL false n.kids) else nodeE b n := by
  have hlt := (List.getElem?_eq_some_iff.1 h).1
  have hd : l.drop k = n :: l.drop (k + 1) := by
    have := List.drop_eq_getElem_cons (l := l) (i := k) hlt
    rw [List.getElem?_eq_getElem hlt] at h
    injection h with h
    rw [h] at this
    exact this
  rw [hd, mayL_cons, mayN_eq, prevT_one h]
  by_cases h1 : nodeE b n = 0
  · rw [if_pos h1, if_pos h1]
  · rw [if_neg h1, if_neg h1, if_neg h1]

attribute [local irreducible] wpStill
end Go.Proofs.Ytfdgmoakobjohaa

/- Part StaR. -/
namespace Go.Proofs.Ytfdgmoakobjohaa
open Go.RowKit
set_option linter.unusedVariables false

/-- Nodes may be, and are stable. -/
def stableB (l : List Nd) : Bool := decide (mayL false l = 0) && stL l

end Go.Proofs.Ytfdgmoakobjohaa

/- Part Mdl. -/
namespace Go.Proofs.Ytfdgmoakobjohaa
open Go.RowKit
set_option linter.unusedVariables false

/-- Closes tells what the document says. -/
def ClosesSaid : Prop := ∀ (o b : ByteArray) (w : World), o.size ≤ maxLen → Calls Try.prog 34 #[.string o, .string b] w fun e w' => e = .returned (.bool (closesB o.data.toList b.data.toList)) ∧ Below w.heap.size w w'
/-- Nodes of a bounded size are such as a row may hand in. -/
theorem fine_of : ∀ l : List Nd, szL l ≤ 1000000 → Fine l := by
  refine sz_ind fun l ih h => ?_
  have hlen := szL_len l
  refine .mk l (by unfold maxLen; omega) (fun n hn => ?_) (fun n hn => ?_)
  · have hz := mem_sz hn
    rw [szN_eq] at hz
    have ha := szA_len n.attrs
    refine ⟨by unfold maxLen; omega, by unfold maxLen; omega, by unfold maxLen; omega, fun a ha => ?_⟩
    obtain ⟨j, hj, he⟩ := List.mem_iff_getElem.1 ha
    have := szA_at (List.getElem?_eq_some_iff.2 ⟨hj, he⟩)
    exact ⟨by unfold maxLen; omega, by unfold maxLen; omega⟩
  · have hz := mem_sz hn
    rw [szN_eq] at hz
    exact ih _ (by omega) (by omega)

theorem all_take {p : Nd → Bool} {l : List Nd} {j : Nat} {x : Nd} (h : l[j]? = some x) : (l.take (j + 1)).all p = ((l.take j).all p && p x) := by
  rw [List.take_add_one, h, List.all_append]
  simp

/-- The first 20 bytes. -/
def few6S (s : ByteArray) : ByteArray := if 20 < s.size then s.extract 0 20 else s
theorem few6S_size (s : ByteArray) : (few6S s).size ≤ 20 := by
  unfold few6S
  split
  · rw [ByteArray.size_extract]; omega
  · omega
theorem lv_1 : closesB [112] [100, 105, 118] = true := by decide +kernel
theorem lv_2 : fitsB [112] (.mk 1 ⟨#[100, 105, 118]⟩ [] ⟨#[]⟩ []) = false := by decide +kernel
theorem lv_3 : fitsB [115, 99, 114, 105, 112, 116] (.mk 1 ⟨#[98]⟩ [] ⟨#[]⟩ []) = false := by decide +kernel
theorem lv_4 : stableB [] = true := by rfl

end Go.Proofs.Ytfdgmoakobjohaa

/- Part TkPM. -/
namespace Go.Proofs.Ytfdgmoakobjohaa
set_option linter.unusedVariables false

/-! ### characters and bytes -/
theorem dec_lo {l : List UInt8} (h : byt l 0 < 128) : dec l = (byt l 0, 1) := by unfold dec; rw [if_pos h]
theorem cont_hi {l : List UInt8} {k : Nat} (h : cont l k = true) : 128 ≤ byt l k := by
  unfold cont at h
  simp at h
  omega
theorem dec_hi {l : List UInt8} (h : ¬ byt l 0 < 128) : 128 ≤ (dec l).1 ∧ ∀ j, j < (dec l).2 → 128 ≤ byt l j := by
  have h0 : 128 ≤ byt l 0 := by omega
  have one : ∀ j, j < 1 → 128 ≤ byt l j := fun j hj => by
    obtain rfl : j = 0 := by omega
    exact h0
  unfold dec
  rw [if_neg h]
  split
  · rename_i h1
    have c1 := cont_hi h1.2
    split
    · refine ⟨by assumption, fun j hj => ?_⟩
      rcases (show j = 0 ∨ j = 1 by simp at hj; omega) with rfl | rfl
      · exact h0
      · exact c1
    · exact ⟨by decide, one⟩
  split
  · rename_i h1
    have c1 := cont_hi h1.2.1
    have c2 := cont_hi h1.2.2
    split
    · rename_i h2
      refine ⟨by simp; omega, fun j hj => ?_⟩
      rcases (show j = 0 ∨ j = 1 ∨ j = 2 by simp at hj; omega) with rfl | rfl | rfl
      · exact h0
      · exact c1
      · exact c2
    · exact ⟨by decide, one⟩
  split
  · rename_i h1
    have c1 := cont_hi h1.2.1
    have c2 := cont_hi h1.2.2.1
    have c3 := cont_hi h1.2.2.2
    split
    · rename_i h2
      refine ⟨by simp; omega, fun j hj => ?_⟩
      rcases (show j = 0 ∨ j = 1 ∨ j = 2 ∨ j = 3 by simp at hj; omega) with rfl | rfl | rfl | rfl
      · exact h0
      · exact c1
      · exact c2
      · exact c3
    · exact ⟨by decide, one⟩
  exact ⟨by decide, one⟩
theorem byt_drop {l : List UInt8} {p : Nat} (j : Nat) : byt (l.drop p) j = byt l (p + j) := by
  unfold byt
  rw [List.getD_eq_getElem?_getD, List.getD_eq_getElem?_getD, List.getElem?_drop]
theorem byt_get {l : List UInt8} {k : Nat} (h : k < l.length) : byt l k = l[k].toNat := by
  unfold byt
  rw [List.getD_eq_getElem?_getD, List.getElem?_eq_getElem h]
  rfl

/-- A character at place p: a byte of its own, or some that are 128 or more. -/
theorem char_at {l : List UInt8} {p : Nat} {r d : Nat} (hp : p < l.length) (hd : dec (l.drop p) = (r, d)) :
    1 ≤ d ∧ p + d ≤ l.length ∧ okR r ∧ ((r < 128 ∧ d = 1 ∧ l[p].toNat = r) ∨ (128 ≤ r ∧ ∀ j (h : j < l.length), p ≤ j → j < p + d → 128 ≤ l[j].toNat)) := by
  have hw := dec_width (l := l.drop p) (by rw [List.length_drop]; omega)
  have ho := dec_ok (l.drop p)
  rw [hd] at hw ho
  rw [List.length_drop] at hw
  simp only at hw ho
  refine ⟨hw.1, by omega, ho, ?_⟩
  by_cases h : byt (l.drop p) 0 < 128
  · have e := dec_lo h
    rw [hd] at e
    injection e with e1 e2
    subst e1
    rw [byt_drop, Nat.add_zero, byt_get hp] at h ⊢
    exact .inl ⟨h, e2, rfl⟩
  · have e := dec_hi h
    rw [hd] at e
    refine .inr ⟨e.1, fun j hj h1 h2 => ?_⟩
    have := e.2 (j - p) (by show j - p < d; omega)
    rw [byt_drop, show p + (j - p) = j by omega, byt_get hj] at this
    exact this

/-! ### as long as .. -/
theorem span_at {p : UInt8 → Bool} : ∀ (l : List UInt8) (k : Nat), k ≤ l.length → (∀ j (h : j < l.length), j < k → p l[j] = true) → (∀ (h : k < l.length), p l[k] = false) → l.takeWhile p = l.take k ∧ l.dropWhile p = l.drop k
  | [], k, hk, _, _ => by simp
  | c :: r, 0, _, _, h => by
    have := h (by simp)
    rw [List.getElem_cons_zero] at this
    rw [List.takeWhile_cons, List.dropWhile_cons, if_neg (by rw [this]; decide), if_neg (by rw [this]; decide)]
    exact ⟨rfl, rfl⟩
  | c :: r, k + 1, hk, hj, h => by
    have h0 := hj 0 (by simp) (by omega)
    rw [List.getElem_cons_zero] at h0
    have := span_at r k (by simpa using hk) (fun j hjl hjk => by have := hj (j + 1) (by simp; omega) (by omega); rwa [List.getElem_cons_succ] at this) (fun hk => by have := h (by simp; omega); rwa [List.getElem_cons_succ] at this)
    rw [List.takeWhile_cons, List.dropWhile_cons, if_pos h0, if_pos h0, this.1, this.2]
    exact ⟨rfl, rfl⟩
theorem charsB_at : ∀ (l : List UInt8) (k : Nat), k ≤ l.length → (∀ j, j < k → startsB (l.drop j) = false) → (k < l.length → startsB (l.drop k) = true) → charsB l = (l.take k, l.drop k)
  | [], k, _, _, _ => by simp [charsB]
  | c :: r, 0, _, _, h => by
    have : startsB (c :: r) = true := h (by simp)
    rw [charsB_cons, if_pos this]
    rfl
  | c :: r, k + 1, hk, hj, h => by
    have h0 : startsB (c :: r) = false := hj 0 (by omega)
    have := charsB_at r k (by simpa using hk) (fun j hjk => hj (j + 1) (by omega)) (fun hk => h (by simpa using hk))
    rw [charsB_cons, if_neg (by rw [h0]; decide), this]
    rfl
theorem cutEnd_k (nm : List UInt8) : ∀ (l : List UInt8) (k : Nat), k ≤ l.length → (∀ j, j < k → endAt nm (l.drop j) = false) → (k < l.length → endAt nm (l.drop k) = true) → cutEnd nm l = (l.take k, l.drop k)
  | [], k, _, _, _ => by simp [cutEnd]
  | c :: r, 0, _, _, h => by
    have : endAt nm (c :: r) = true := h (by simp)
    rw [cutEnd_cons, if_pos this]
    rfl
  | c :: r, k + 1, hk, hj, h => by
    have h0 : endAt nm (c :: r) = false := hj 0 (by omega)
    have := cutEnd_k nm r k (by simpa using hk) (fun j hjk => hj (j + 1) (by omega)) (fun hk => h (by simpa using hk))
    rw [cutEnd_cons, if_neg (by rw [h0]; decide), this]
    rfl
theorem starts_at {l : List UInt8} {j : Nat} (hj : j < l.length) (h : l[j].toNat ≠ 60) : startsB (l.drop j) = false := by
  rw [List.drop_eq_getElem_cons hj]
  cases l.drop (j + 1) with
  | nil => rfl
  | cons d r =>
    have : decide (l[j] = 60) = false := by
      rw [decide_eq_false_iff_not]
      intro e
      rw [e] at h
      exact h rfl
    simp only [startsB, this, Bool.false_and]
theorem lowB_60 {c : UInt8} (h : lowB c = 60) : c = 60 := by
  have := lowB_toNat c
  rw [h] at this
  apply UInt8.toNat_inj.1
  show c.toNat = 60
  have h60 : (60 : UInt8).toNat = 60 := rfl
  rw [h60] at this
  split at this <;> omega
theorem endAt_ne {nm l : List UInt8} {j : Nat} (hj : j < l.length) (h : l[j].toNat ≠ 60) : endAt nm (l.drop j) = false := by
  rw [List.drop_eq_getElem_cons hj]
  unfold endAt
  rw [Bool.and_eq_false_iff]
  refine .inl ?_
  rw [decide_eq_false_iff_not, show 2 + nm.length = (1 + nm.length) + 1 by omega, List.take_succ_cons, List.map_cons]
  intro e
  injection e with e1 e2
  have := lowB_60 e1
  rw [this] at h
  exact h rfl

/-! ### strings.Cut -/
theorem cut_cons (b : UInt8) (l sep : List UInt8) : Lib.cut (b :: l) sep = if sep.isPrefixOf (b :: l) = true then ([], (b :: l).drop sep.length, true) else (b :: (Lib.cut l sep).1, (Lib.cut l sep).2.1, (Lib.cut l sep).2.2) := by
  have e : Lib.index (b :: l) sep = if sep.isPrefixOf (b :: l) = true then 0 else if Lib.index l sep == -1 then -1 else Lib.index l sep + 1 := rfl
  have hge := Lib.index_ge l sep
  unfold Lib.cut
  rw [e]
  by_cases hp : sep.isPrefixOf (b :: l) = true
  · rw [if_pos hp, if_pos hp, if_pos (by omega)]
    simp
  · rw [if_neg hp, if_neg hp]
    by_cases hi : Lib.index l sep = -1
    · rw [hi]
      simp
    · have : (Lib.index l sep == -1) = false := by rw [beq_eq_false_iff_ne]; exact hi
      rw [this]
      have h0 : 0 ≤ Lib.index l sep := by omega
      obtain ⟨n, hn⟩ := Int.eq_ofNat_of_zero_le h0
      rw [hn]
      have h1 : ((n : Int) + 1).toNat = n + 1 := by omega
      rw [if_neg (show ¬ (false = true) by decide), if_pos (by omega), if_pos (by omega), h1, List.take_succ_cons, show n + 1 + sep.length = (n + sep.length) + 1 by omega, List.drop_succ_cons]
      simp
theorem cut_nil {sep : List UInt8} (h : sep ≠ []) : Lib.cut [] sep = ([], [], false) := by
  unfold Lib.cut Lib.index
  cases sep with
  | nil => exact absurd rfl h
  | cons a r => rfl
theorem cut_three : ∀ l : List UInt8, (Lib.cut l [45, 45, 62]).1 = (upTo3 l).1 ∧ (Lib.cut l [45, 45, 62]).2.1 = (upTo3 l).2
  | [] => by rw [cut_nil (by simp)]; exact ⟨rfl, rfl⟩
  | c :: r => by
    have ih := cut_three r
    rw [cut_cons, upTo3_cons]
    by_cases h : Lib.hasPrefix (c :: r) [45, 45, 62] = true
    · have h' : ([45, 45, 62] : List UInt8).isPrefixOf (c :: r) = true := h
      rw [if_pos h, if_pos h']
      exact ⟨rfl, rfl⟩
    · have h' : ¬ ([45, 45, 62] : List UInt8).isPrefixOf (c :: r) = true := h
      rw [if_neg h, if_neg h']
      exact ⟨by show c :: _ = c :: _; rw [ih.1], ih.2⟩
theorem cut_gt : ∀ l : List UInt8, (Lib.cut l [62]).1 = (upTo1 l).1 ∧ (Lib.cut l [62]).2.1 = (upTo1 l).2
  | [] => by rw [cut_nil (by simp)]; exact ⟨rfl, rfl⟩
  | c :: r => by
    have ih := cut_gt r
    have e : ([62] : List UInt8).isPrefixOf (c :: r) = (62 == c) := by
      show ((62 == c) && _) = _
      simp
    unfold upTo1 at ih ⊢
    rw [cut_cons, e, List.takeWhile_cons, List.dropWhile_cons]
    by_cases h : c = 62
    · subst h
      rw [if_pos (by rfl), if_neg (by decide), if_neg (by decide)]
      exact ⟨rfl, rfl⟩
    · have h1 : (62 == c) = false := by rw [beq_eq_false_iff_ne]; exact fun e => h e.symm
      have h2 : neC 62 c = true := by simp [neC, h]
      rw [h1, h2, if_neg (by decide), if_pos rfl, if_pos rfl]
      exact ⟨by show c :: _ = c :: _; rw [ih.1], ih.2⟩

end Go.Proofs.Ytfdgmoakobjohaa

/- Part TkA. -/
namespace Go.Proofs.Ytfdgmoakobjohaa
open Go.RowKit
set_option linter.unusedVariables false

/-- A letter; a character of a tag's name. -/
def letZ (r : Int) : Bool := (decide (65 ≤ r) && decide (r ≤ 90)) || (decide (97 ≤ r) && decide (r ≤ 122))
def tagZ (r : Int) : Bool := letZ r || (decide (48 ≤ r) && decide (r ≤ 57)) || (r == 45)
theorem letZ_byte (c : UInt8) : letZ (c.toNat : Int) = letC c := by
  unfold letZ letC
  have h1 : decide ((65 : Int) ≤ c.toNat) = decide (65 ≤ c.toNat) := by rw [decide_eq_decide]; omega
  have h2 : decide ((c.toNat : Int) ≤ 90) = decide (c.toNat ≤ 90) := by rw [decide_eq_decide]; omega
  have h3 : decide ((97 : Int) ≤ c.toNat) = decide (97 ≤ c.toNat) := by rw [decide_eq_decide]; omega
  have h4 : decide ((c.toNat : Int) ≤ 122) = decide (c.toNat ≤ 122) := by rw [decide_eq_decide]; omega
  rw [h1, h2, h3, h4]
theorem tagZ_byte (c : UInt8) : tagZ (c.toNat : Int) = tagC c := by
  unfold tagZ tagC
  have h1 : decide ((48 : Int) ≤ c.toNat) = decide (48 ≤ c.toNat) := by rw [decide_eq_decide]; omega
  have h2 : decide ((c.toNat : Int) ≤ 57) = decide (c.toNat ≤ 57) := by rw [decide_eq_decide]; omega
  have h3 : ((c.toNat : Int) == 45) = decide (c.toNat = 45) := by rw [Bool.eq_iff_iff, beq_iff_eq, decide_eq_true_eq]; omega
  rw [letZ_byte, h1, h2, h3]
theorem tagZ_hi {r : Int} (h : 128 ≤ r) : tagZ r = false := by
  unfold tagZ letZ
  simp
  omega
theorem tagC_hi {c : UInt8} (h : 128 ≤ c.toNat) : tagC c = false := by rw [← tagZ_byte]; exact tagZ_hi (by omega)

theorem starts_at0 {s : ByteArray} {l : List UInt8} (hl : s.data.toList = l) (k : Nat) (h : k < s.size) : l[k]? = some s[k] := by
  rw [← hl, List.getElem?_eq_getElem (by simpa using h)]
  rfl

end Go.Proofs.Ytfdgmoakobjohaa

/- Part Shelf. -/
namespace Go.Proofs
open Go.Shelf
def Try.lays240_ren : Go.Shelf.Ren := ⟨fun | 240 => 44 | 276 => 46 | n => n, fun | 70 => 48 | 0 => 0 | 72 => 51 | 4 => 4 | 164 => 87 | 37 => 49 | 5 => 5 | 9 => 9 | 20 => 20 | n => n, fun | n => n⟩
theorem Try.lays240 : Go.Proofs.Lays.n240 Try.prog Try.lays240_ren := {
  mixed := by kernel_rfl
  f240 := Try.func44.trans (congrArg some (by kernel_rfl))
  f276 := Try.func46.trans (congrArg some (by kernel_rfl))
  t0 := Try.underlying0
  a0 := Try.isAgg0
  z0 := Try.sizeOf0
  v0 := Try.zeroValue0
  t4 := Try.underlying4
  a4 := Try.isAgg4
  z4 := Try.sizeOf4
  v4 := Try.zeroValue4
  t9 := Try.underlying9
  a9 := Try.isAgg9
  z9 := Try.sizeOf9
  v9 := Try.zeroValue9
  t20 := Try.underlying20
  a20 := Try.isAgg20
  z20 := Try.sizeOf20
  v20 := Try.zeroValue20
  t70 := Try.underlying48
  a70 := Try.isAgg48
  z70 := Try.sizeOf48
  v70 := Try.zeroValue48
  t72 := Try.underlying51
  a72 := Try.isAgg51
  z72 := Try.sizeOf51
  v72 := Try.zeroValue51
  t164 := Try.underlying87
  a164 := Try.isAgg87
  z164 := Try.sizeOf87
  v164 := Try.zeroValue87 }
theorem Try.Builder_X72_240 : Builder.X72 Try.prog Try.lays240_ren := {
  sizeBuilder := by kernel_rfl
  liesBuilder := by kernel_rfl }
open Go.RowKit in
theorem Try.Builder_copyCheck (B b : Nat) (bs : List Value) (w : World) (h : Lib.IsBuilder 51 5 B b bs w) :
    Calls Try.prog 44 #[.pointer (some ⟨b, 0, none⟩)] w fun e w' => e = .returned (.tuple #[]) ∧ (Lib.BuilderAt 51 5 B b (.pointer (some ⟨b, 0, none⟩)) bs w' ∧ Below B w w') := Any.Builder_copyCheck Try.lays240 Try.Builder_X72_240 B b bs w h
def Try.lays166_ren : Go.Shelf.Ren := ⟨fun | 166 => 40 | 240 => 44 | 276 => 46 | n => n, fun | 70 => 48 | 9 => 9 | 3 => 3 | 75 => 79 | 0 => 0 | 72 => 51 | 37 => 49 | 4 => 4 | 164 => 87 | 80 => 75 | 5 => 5 | 20 => 20 | n => n, fun | n => n⟩
theorem Try.lays166 : Go.Proofs.Lays.n166 Try.prog Try.lays166_ren := {
  mixed := by kernel_rfl
  f166 := Try.func40.trans (congrArg some (by kernel_rfl))
  f240 := Try.func44.trans (congrArg some (by kernel_rfl))
  f276 := Try.func46.trans (congrArg some (by kernel_rfl))
  t0 := Try.underlying0
  a0 := Try.isAgg0
  z0 := Try.sizeOf0
  v0 := Try.zeroValue0
  t3 := Try.underlying3
  a3 := Try.isAgg3
  z3 := Try.sizeOf3
  v3 := Try.zeroValue3
  t4 := Try.underlying4
  a4 := Try.isAgg4
  z4 := Try.sizeOf4
  v4 := Try.zeroValue4
  t9 := Try.underlying9
  a9 := Try.isAgg9
  z9 := Try.sizeOf9
  v9 := Try.zeroValue9
  t20 := Try.underlying20
  a20 := Try.isAgg20
  z20 := Try.sizeOf20
  v20 := Try.zeroValue20
  t37 := Try.underlying49
  a37 := Try.isAgg49
  z37 := Try.sizeOf49
  v37 := Try.zeroValue49
  t70 := Try.underlying48
  a70 := Try.isAgg48
  z70 := Try.sizeOf48
  v70 := Try.zeroValue48
  t72 := Try.underlying51
  a72 := Try.isAgg51
  z72 := Try.sizeOf51
  v72 := Try.zeroValue51
  t75 := Try.underlying79
  a75 := Try.isAgg79
  z75 := Try.sizeOf79
  v75 := Try.zeroValue79
  t164 := Try.underlying87
  a164 := Try.isAgg87
  z164 := Try.sizeOf87
  v164 := Try.zeroValue87 }
theorem Try.Builder_Extra_166 : Builder.Extra Try.prog Try.lays166_ren := {
  sizeBuilder := by kernel_rfl
  liesBuilder := by kernel_rfl
  t5 := Try.underlying5
  a5 := Try.isAgg5
  z5 := Try.sizeOf5
  v5 := Try.zeroValue5
  infoByte := by kernel_rfl
  cellsByte := by kernel_rfl
  sizeByte := by kernel_rfl
  neB5 := by decide }
open Go.RowKit in
theorem Try.Builder_WriteString (B b : Nat) (bs : List Value) (s : ByteArray) (w : World) (h : Lib.IsBuilder 51 5 B b bs w) (hlen : bs.length + s.size ≤ 140737488355328) (hBw : B ≤ w.heap.size) :
    Calls Try.prog 40 #[.pointer (some ⟨b, 0, none⟩), .string s] w fun e w' => e = .returned (.tuple #[.int .i64 s.size, .nilIface]) ∧ (Lib.BuilderAt 51 5 B b (.pointer (some ⟨b, 0, none⟩)) (bs ++ Lib.strCells s) w' ∧ Below B w w') := Any.Builder_WriteString Try.lays166 Try.Builder_Extra_166 B b bs s w h hlen hBw
def Try.lays169_ren : Go.Shelf.Ren := ⟨fun | 169 => 41 | n => n, fun | 70 => 48 | 9 => 9 | 0 => 0 | 72 => 51 | 37 => 49 | 127 => 85 | 3 => 3 | 5 => 5 | 20 => 20 | n => n, fun | n => n⟩
theorem Try.lays169 : Go.Proofs.Lays.n169 Try.prog Try.lays169_ren := {
  mixed := by kernel_rfl
  f169 := Try.func41.trans (congrArg some (by kernel_rfl))
  t0 := Try.underlying0
  a0 := Try.isAgg0
  z0 := Try.sizeOf0
  v0 := Try.zeroValue0
  t3 := Try.underlying3
  a3 := Try.isAgg3
  z3 := Try.sizeOf3
  v3 := Try.zeroValue3
  t9 := Try.underlying9
  a9 := Try.isAgg9
  z9 := Try.sizeOf9
  v9 := Try.zeroValue9
  t37 := Try.underlying49
  a37 := Try.isAgg49
  z37 := Try.sizeOf49
  v37 := Try.zeroValue49
  t70 := Try.underlying48
  a70 := Try.isAgg48
  z70 := Try.sizeOf48
  v70 := Try.zeroValue48
  t72 := Try.underlying51
  a72 := Try.isAgg51
  z72 := Try.sizeOf51
  v72 := Try.zeroValue51
  t127 := Try.underlying85
  a127 := Try.isAgg85
  z127 := Try.sizeOf85
  v127 := Try.zeroValue85 }
theorem Try.Builder_Extra_169 : Builder.Extra Try.prog Try.lays169_ren := {
  sizeBuilder := by kernel_rfl
  liesBuilder := by kernel_rfl
  t5 := Try.underlying5
  a5 := Try.isAgg5
  z5 := Try.sizeOf5
  v5 := Try.zeroValue5
  infoByte := by kernel_rfl
  cellsByte := by kernel_rfl
  sizeByte := by kernel_rfl
  neB5 := by decide }
open Go.RowKit in
theorem Try.Builder_String (B b : Nat) (l : List UInt8) (w : World) (h : Lib.IsBuilder 51 5 B b (Lib.byteCells l) w) (h0 : l ≠ []) :
    Calls Try.prog 41 #[.pointer (some ⟨b, 0, none⟩)] w fun e w' => e = .returned (.string ⟨l.toArray⟩) ∧ Below B w w' := Any.Builder_String Try.lays169 Try.Builder_Extra_169 B b l w h h0
open Go.RowKit in
theorem Try.Builder_String_empty (B b : Nat) (w : World) (h : Lib.IsBuilder 51 5 B b [] w) (hBw : B ≤ w.heap.size) :
    Calls Try.prog 41 #[.pointer (some ⟨b, 0, none⟩)] w fun e w' => e = .returned (.string ⟨#[]⟩) ∧ Below B w w' := Any.Builder_String_empty Try.lays169 Try.Builder_Extra_169 B b w h hBw
open Go.RowKit in
theorem Try.Builder_String_any (B b : Nat) (l : List UInt8) (w : World) (h : Lib.IsBuilder 51 5 B b (Lib.byteCells l) w) (hBw : B ≤ w.heap.size) :
    Calls Try.prog 41 #[.pointer (some ⟨b, 0, none⟩)] w fun e w' => e = .returned (.string ⟨l.toArray⟩) ∧ Below B w w' := Any.Builder_String_any Try.lays169 Try.Builder_Extra_169 B b l w h hBw
open Go.RowKit in
theorem Try.Builder_copyCheck_f (B b : Nat) (bs : List Value) (w : World) (h : Lib.IsBuilderF 51 5 B b bs w) :
    Calls Try.prog 44 #[.pointer (some ⟨b, 0, none⟩)] w fun e w' => e = .returned (.tuple #[]) ∧ (Lib.BuilderAtF 51 5 B b (.pointer (some ⟨b, 0, none⟩)) bs w' ∧ Below B w w') := Any.Builder_copyCheck_f Try.lays240 Try.Builder_X72_240 B b bs w h
open Go.RowKit in
theorem Try.Builder_WriteString_f (B b : Nat) (bs : List Value) (s : ByteArray) (w : World) (h : Lib.IsBuilderF 51 5 B b bs w) (hlen : bs.length + s.size ≤ 140737488355328) (hBw : B ≤ w.heap.size) :
    Calls Try.prog 40 #[.pointer (some ⟨b, 0, none⟩), .string s] w fun e w' => e = .returned (.tuple #[.int .i64 s.size, .nilIface]) ∧ (Lib.BuilderAtF 51 5 B b (.pointer (some ⟨b, 0, none⟩)) (bs ++ Lib.strCells s) w' ∧ Below B w w') := Any.Builder_WriteString_f Try.lays166 Try.Builder_Extra_166 B b bs s w h hlen hBw
open Go.RowKit in
theorem Try.Builder_String_f (B b : Nat) (l : List UInt8) (w : World) (h : Lib.IsBuilderF 51 5 B b (Lib.byteCells l) w) (h0 : l ≠ []) :
    Calls Try.prog 41 #[.pointer (some ⟨b, 0, none⟩)] w fun e w' => e = .returned (.string ⟨l.toArray⟩) ∧ (Lib.IsBuilderF 51 5 B b (Lib.byteCells l) w' ∧ Below B w w') := Any.Builder_String_f Try.lays169 Try.Builder_Extra_169 B b l w h h0
open Go.RowKit in
theorem Try.Builder_String_empty_f (B b : Nat) (w : World) (h : Lib.IsBuilderF 51 5 B b [] w) (hBw : B ≤ w.heap.size) :
    Calls Try.prog 41 #[.pointer (some ⟨b, 0, none⟩)] w fun e w' => e = .returned (.string ⟨#[]⟩) ∧ (Lib.IsBuilderF 51 5 B b [] w' ∧ Below B w w') := Any.Builder_String_empty_f Try.lays169 Try.Builder_Extra_169 B b w h hBw
open Go.RowKit in
theorem Try.Builder_String_any_f (B b : Nat) (l : List UInt8) (w : World) (h : Lib.IsBuilderF 51 5 B b (Lib.byteCells l) w) (hBw : B ≤ w.heap.size) :
    Calls Try.prog 41 #[.pointer (some ⟨b, 0, none⟩)] w fun e w' => e = .returned (.string ⟨l.toArray⟩) ∧ (Lib.IsBuilderF 51 5 B b (Lib.byteCells l) w' ∧ Below B w w') := Any.Builder_String_any_f Try.lays169 Try.Builder_Extra_169 B b l w h hBw
open Go.RowKit in
theorem Try.Builder_copyCheck_k (B b : Nat) (bs : List Value) (w : World) (h : Lib.IsBuilderF 51 5 B b bs w) :
    Calls Try.prog 44 #[.pointer (some ⟨b, 0, none⟩)] w fun e w' => e = .returned (.tuple #[]) ∧ (Lib.BuilderAtF 51 5 B b (.pointer (some ⟨b, 0, none⟩)) bs w' ∧ Below B w w' ∧ Lib.OthersKept 5 (some b) w w') := Any.Builder_copyCheck_k Try.lays240 Try.Builder_X72_240 B b bs w h
open Go.RowKit in
theorem Try.Builder_WriteString_k (B b : Nat) (bs : List Value) (s : ByteArray) (w : World) (h : Lib.IsBuilderF 51 5 B b bs w) (hlen : bs.length + s.size ≤ 140737488355328) (hBw : B ≤ w.heap.size) :
    Calls Try.prog 40 #[.pointer (some ⟨b, 0, none⟩), .string s] w fun e w' => e = .returned (.tuple #[.int .i64 s.size, .nilIface]) ∧ (Lib.BuilderAtF 51 5 B b (.pointer (some ⟨b, 0, none⟩)) (bs ++ Lib.strCells s) w' ∧ Below B w w' ∧ Lib.OthersKept 5 (some b) w w') := Any.Builder_WriteString_k Try.lays166 Try.Builder_Extra_166 B b bs s w h hlen hBw
open Go.RowKit in
theorem Try.Builder_String_k (B b : Nat) (l : List UInt8) (w : World) (h : Lib.IsBuilderF 51 5 B b (Lib.byteCells l) w) (h0 : l ≠ []) :
    Calls Try.prog 41 #[.pointer (some ⟨b, 0, none⟩)] w fun e w' => e = .returned (.string ⟨l.toArray⟩) ∧ (Lib.IsBuilderF 51 5 B b (Lib.byteCells l) w' ∧ Below B w w' ∧ Lib.OthersKept 5 (some b) w w') := Any.Builder_String_k Try.lays169 Try.Builder_Extra_169 B b l w h h0
open Go.RowKit in
theorem Try.Builder_String_empty_k (B b : Nat) (w : World) (h : Lib.IsBuilderF 51 5 B b [] w) (hBw : B ≤ w.heap.size) :
    Calls Try.prog 41 #[.pointer (some ⟨b, 0, none⟩)] w fun e w' => e = .returned (.string ⟨#[]⟩) ∧ (Lib.IsBuilderF 51 5 B b [] w' ∧ Below B w w' ∧ Lib.OthersKept 5 (some b) w w') := Any.Builder_String_empty_k Try.lays169 Try.Builder_Extra_169 B b w h hBw
open Go.RowKit in
theorem Try.Builder_String_any_k (B b : Nat) (l : List UInt8) (w : World) (h : Lib.IsBuilderF 51 5 B b (Lib.byteCells l) w) (hBw : B ≤ w.heap.size) :
    Calls Try.prog 41 #[.pointer (some ⟨b, 0, none⟩)] w fun e w' => e = .returned (.string ⟨l.toArray⟩) ∧ (Lib.IsBuilderF 51 5 B b (Lib.byteCells l) w' ∧ Below B w w' ∧ Lib.OthersKept 5 (some b) w w') := Any.Builder_String_any_k Try.lays169 Try.Builder_Extra_169 B b l w h hBw
open Go.RowKit in
theorem Try.Builder_copyCheck_kc (B b : Nat) (bs : List Value) (w : World) (h : Lib.IsBuilderF 51 5 B b bs w) :
    Calls Try.prog 44 #[.pointer (some ⟨b, 0, none⟩)] w fun e w' => e = .returned (.tuple #[]) ∧ (Lib.BuilderAtF 51 5 B b (.pointer (some ⟨b, 0, none⟩)) bs w' ∧ Below B w w' ∧ Lib.OthersKept 5 (some b) w w') ∧ w'.cell? ⟨b, 1, none⟩ = w.cell? ⟨b, 1, none⟩ := Any.Builder_copyCheck_kc Try.lays240 Try.Builder_X72_240 B b bs w h
open Go.RowKit in
theorem Try.Builder_WriteString_kc (B b : Nat) (bs : List Value) (s : ByteArray) (w : World) (h : Lib.IsBuilderF 51 5 B b bs w) (hlen : bs.length + s.size ≤ 140737488355328) (hBw : B ≤ w.heap.size) :
    Calls Try.prog 40 #[.pointer (some ⟨b, 0, none⟩), .string s] w fun e w' => e = .returned (.tuple #[.int .i64 s.size, .nilIface]) ∧ (Lib.BuilderAtF 51 5 B b (.pointer (some ⟨b, 0, none⟩)) (bs ++ Lib.strCells s) w' ∧ Below B w w' ∧ Lib.OthersKept 5 (some b) w w') ∧ ∀ v0, w.cell? ⟨b, 1, none⟩ = some v0 → ∃ v1, w'.cell? ⟨b, 1, none⟩ = some v1 ∧ v0.capOf ≤ v1.capOf := Any.Builder_WriteString_kc Try.lays166 Try.Builder_Extra_166 B b bs s w h hlen hBw
end Go.Proofs

/- Part TkB. -/
namespace Go.Proofs.Ytfdgmoakobjohaa
open Go.RowKit
set_option linter.unusedVariables false

theorem enc_hiB {r : Int} (h : 128 ≤ r) : ∃ t : ByteArray, Utf8.encode r = t ∧ 2 ≤ t.size ∧ t.size ≤ 4 ∧ ∀ h : t.size - 1 < t.size, 128 ≤ (t[t.size - 1]'h).toNat := by
  refine ⟨_, rfl, ?_⟩
  unfold Utf8.encode
  obtain ⟨c, hc⟩ : ∃ c, (if Utf8.valid r = true then r.toNat else Utf8.runeError) = c := ⟨_, rfl⟩
  have h0 : 128 ≤ c := by
    rw [← hc]
    split
    · omega
    · decide
  rw [hc]
  have hb : ∀ n : Nat, n < 256 → (UInt8.ofNat n).toNat = n := fun n hn => by simp; omega
  show 2 ≤ (if c < 0x80 then _ else _ : ByteArray).size ∧ _
  simp only [if_neg (show ¬ c < 0x80 by omega)]
  by_cases h1 : c < 0x800
  · simp only [if_pos h1]
    refine ⟨(by decide : 2 ≤ 2), (by decide : 2 ≤ 4), fun _ => ?_⟩
    show 128 ≤ (UInt8.ofNat (128 + c % 64)).toNat
    rw [hb _ (by omega)]
    omega
  by_cases h2 : c < 0x10000
  · simp only [if_neg h1, if_pos h2]
    refine ⟨(by decide : 2 ≤ 3), (by decide : 3 ≤ 4), fun _ => ?_⟩
    show 128 ≤ (UInt8.ofNat (128 + c % 64)).toNat
    rw [hb _ (by omega)]
    omega
  · simp only [if_neg h1, if_neg h2]
    refine ⟨(by decide : 2 ≤ 4), (by decide : 4 ≤ 4), fun _ => ?_⟩
    show 128 ≤ (UInt8.ofNat (128 + c % 64)).toNat
    rw [hb _ (by omega)]
    omega

theorem conv_rune (w : World) (r : Int) : (convert 21 9 (.int .i32 r)).run Try.prog w = .ok (.string (Utf8.encode r)) w := by kernel_rfl
theorem valid_ok {r : Int} (h : okR r) : Lib.validRune r = true := by
  unfold okR at h
  simp [Lib.validRune]
  omega

theorem index_low : ∀ {l : List UInt8} {c : UInt8}, (∀ x ∈ l, x.toNat < 128) → 128 ≤ c.toNat → Lib.indexByte l c = -1
  | [], c, _, _ => rfl
  | b :: l, c, h, hc => by
    have ih := index_low (l := l) (c := c) (fun x hx => h x (by simp [hx])) hc
    have hb := h b (by simp)
    have hne : (b == c) = false := by
      rw [beq_eq_false_iff_ne]
      intro e
      rw [e] at hb
      omega
    show (if (b == c) = true then (0 : Int) else if (Lib.indexByte l c == -1) = true then -1 else Lib.indexByte l c + 1) = -1
    rw [hne, ih]
    rfl

/-- Is a character one of a text's bytes? -/
def inZ (l : List UInt8) (r : Int) : Bool := decide (r < 128) && decide (0 ≤ Lib.indexByte l r.toNat.toUInt8)

end Go.Proofs.Ytfdgmoakobjohaa

/- Part TkC. -/
namespace Go.Proofs.Ytfdgmoakobjohaa
open Go.RowKit
set_option linter.unusedVariables false

/-- What a function value that is asked of a character says, in whatever world behind W0. -/
structure Asks (W0 : World) (g : FuncId) (free : Array Value) (q : Int → Bool) : Prop where
  ent : ∀ args w, (callFunc g args).run Try.prog w = .ok (.enter g args) w
  call : ∀ (r : Int) (W : World), okR r → Below W0.heap.size W0 W → Calls Try.prog g (#[.int .i32 r] ++ free) W fun e W' => e = .returned (.bool (q r)) ∧ Below W.heap.size W W'
/-- It tells of bytes what p tells: of those of 128 or more all the same. -/
structure Bytely (q : Int → Bool) (p : UInt8 → Bool) (hi : Bool) : Prop where
  lo : ∀ c : UInt8, c.toNat < 128 → q (c.toNat : Int) = p c
  hz : ∀ r : Int, 128 ≤ r → okR r → q r = hi
  hb : ∀ c : UInt8, 128 ≤ c.toNat → p c = hi

theorem bytely_named : Bytely tagZ tagC false := ⟨fun c _ => tagZ_byte c, fun r h _ => tagZ_hi h, fun c h => tagC_hi h⟩

/-- What among and outside hand back. -/
def Closed (g : FuncId) (s : ByteArray) (w : World) (e : Ending) (w' : World) : Prop :=
  ∃ b, e = .returned (.func (.func g) #[] #[.pointer (some ⟨b, 0, none⟩)]) ∧ b < w'.heap.size ∧ w'.cell? ⟨b, 0, none⟩ = some (.string s) ∧ Below w.heap.size w w'
end Go.Proofs.Ytfdgmoakobjohaa

/- Part TkD. -/
namespace Go.Proofs.Ytfdgmoakobjohaa
open Go.RowKit
set_option linter.unusedVariables false

theorem index_mem : ∀ (l : List UInt8) (c : UInt8), decide (0 ≤ Lib.indexByte l c) = l.contains c
  | [], c => rfl
  | b :: l, c => by
    have ih := index_mem l c
    have hge := Lib.indexByte_ge l c
    show decide (0 ≤ (if (b == c) = true then (0 : Int) else if (Lib.indexByte l c == -1) = true then -1 else Lib.indexByte l c + 1)) = _
    rw [List.contains_cons, ← ih]
    by_cases h : b = c
    · subst h
      simp
    · have h1 : (b == c) = false := by rw [beq_eq_false_iff_ne]; exact h
      have h2 : (c == b) = false := by rw [beq_eq_false_iff_ne]; exact fun e => h e.symm
      rw [h1, h2, Bool.false_or, if_neg (by decide)]
      by_cases h3 : Lib.indexByte l c = -1
      · rw [h3]; rfl
      · have : (Lib.indexByte l c == -1) = false := by rw [beq_eq_false_iff_ne]; exact h3
        rw [this, if_neg (by decide), decide_eq_true (by omega), decide_eq_true (by omega)]
theorem inZ_byte (l : List UInt8) {c : UInt8} (h : c.toNat < 128) : inZ l (c.toNat : Int) = l.contains c := by
  unfold inZ
  rw [decide_eq_true (show (c.toNat : Int) < 128 by omega), Bool.true_and, ← index_mem]
  have : (c.toNat : Int).toNat.toUInt8 = c := by simp
  rw [this]
theorem inZ_hi (l : List UInt8) {r : Int} (h : 128 ≤ r) : inZ l r = false := by
  unfold inZ
  rw [decide_eq_false (by omega), Bool.false_and]
theorem contains_hi {l : List UInt8} (hs : ∀ c ∈ l, c.toNat < 128) {c : UInt8} (h : 128 ≤ c.toNat) : l.contains c = false := by
  rw [← Bool.not_eq_true, List.contains_iff_mem]
  intro hc
  have := hs c hc
  omega
theorem bytely_among {l : List UInt8} (hs : ∀ c ∈ l, c.toNat < 128) : Bytely (inZ l) (fun c => l.contains c) false :=
  ⟨fun c h => inZ_byte l h, fun r h _ => inZ_hi l h, fun c h => contains_hi hs h⟩
theorem bytely_outside {l : List UInt8} (hs : ∀ c ∈ l, c.toNat < 128) : Bytely (fun r => !inZ l r) (fun c => !l.contains c) true :=
  ⟨fun c h => by rw [inZ_byte l h], fun r h _ => by rw [inZ_hi l h]; rfl, fun c h => by rw [contains_hi hs h]; rfl⟩
/-- What part hands back. -/
def Parted (p : UInt8 → Bool) (s : ByteArray) (w : World) (e : Ending) (w' : World) : Prop :=
  ∃ a b : ByteArray, e = .returned (.tuple #[.string a, .string b]) ∧ a.data.toList = s.data.toList.takeWhile p ∧ b.data.toList = s.data.toList.dropWhile p ∧ Below w.heap.size w w'

structure PartAt (w : World) (s : ByteArray) (l : List UInt8) (p : UInt8 → Bool) (pos : Nat) (wr : World) : Prop where
  le : pos ≤ l.length
  it : wr.heap[w.heap.size]? = some (.stringIter s pos)
  bel : Below w.heap.size w wr
  ok : ∀ j (h : j < l.length), j < pos → p l[j] = true

end Go.Proofs.Ytfdgmoakobjohaa

/- Part Fold. -/
namespace Go.Proofs.Ytfdgmoakobjohaa
open Go.RowKit
set_option linter.unusedVariables false
/-- What holds of the row of bytes after k rounds: the first k are small. -/
def FoldRow (w : World) (B : Nat) (l : List UInt8) (k : Nat) : Prop :=
  ∀ j, (h : j < l.length) → w.cell? ⟨B, j, none⟩ = some (.int .u8 (if j < k then lowB l[j] else l[j]).toNat) ∧ w.frozen? ⟨B, j, none⟩ = false

theorem FoldRow.step {w : World} {B : Nat} {l : List UInt8} {k : Nat} (h : FoldRow w B l k) (hk : k < l.length) :
    FoldRow (w.setCell ⟨B, k, none⟩ (.int .u8 (lowB l[k]).toNat)) B l (k + 1) := by
  intro j hj
  obtain ⟨hc, hf⟩ := h j hj
  by_cases hjk : j = k
  · subst hjk
    refine ⟨?_, by rw [World.frozen?_setCell]; exact hf⟩
    rw [if_pos (by omega)]
    exact World.cell?_setCell_same _ _ _ hc
  · refine ⟨?_, by rw [World.frozen?_setCell]; exact hf⟩
    rw [World.cell?_setCell_other _ _ _ _ (by intro e; injection e; omega), hc]
    by_cases h1 : j < k
    · rw [if_pos h1, if_pos (by omega)]
    · rw [if_neg h1, if_neg (by omega)]

theorem FoldRow.start (w : World) (s : ByteArray) (cap : Nat) :
    FoldRow (w.alloc (.cells (bytesRow s cap) 5 ((bytesRow s cap).size, (bytesRow s cap).size + 1))).drew w.heap.size s.data.toList 0 := by
  intro j hj
  have hj' : j < s.data.size := by simpa using hj
  refine ⟨?_, ?_⟩
  · rw [if_neg (by omega)]
    show (w.alloc _).cell? _ = _
    rw [World.cell?_alloc_mark, bytesRow_at s cap j hj']
    simp
  · show (w.alloc _).frozen? _ = _
    rw [World.frozen?_alloc_mark]
    have : j < (bytesRow s cap).size := by
      rcases Nat.lt_or_ge j (bytesRow s cap).size with h | h
      · exact h
      · have := bytesRow_at s cap j hj'
        rw [Array.getElem?_eq_none h] at this
        cases this
    simp
    omega

theorem FoldRow.done {w : World} {B : Nat} {l : List UInt8} (h : FoldRow w B l l.length) :
    ∀ j (hj : j < (l.map lowB).length), w.cell? ((⟨B, 0, none⟩ : Addr).add j) = some (.int .u8 (((l.map lowB)[j]).toNat : Int)) := by
  intro j hj
  have hj' : j < l.length := by simpa using hj
  have := (h j hj').1
  rw [if_pos hj'] at this
  rw [add_zero_addr, this]
  simp

end Go.Proofs.Ytfdgmoakobjohaa

/- Part Prefix. -/
namespace Go.Proofs.Ytfdgmoakobjohaa
open Go.RowKit
set_option linter.unusedVariables false

/-- Do the first bytes of l, made small, make up the word? -/
def prefB (l word : List UInt8) : Bool := decide ((l.map lowB).take word.length = word)

theorem prefB_short {l word : List UInt8} (h : l.length < word.length) : prefB l word = false := by
  unfold prefB
  rw [decide_eq_false_iff_not]
  intro e
  have := congrArg List.length e
  simp at this
  omega

theorem prefB_no {l word : List UInt8} {k : Nat} (h1 : k < l.length) (h2 : k < word.length) (h : lowB l[k] ≠ word[k]) : prefB l word = false := by
  unfold prefB
  rw [decide_eq_false_iff_not]
  intro e
  have e1 : ((l.map lowB).take word.length)[k]? = word[k]? := by rw [e]
  rw [List.getElem?_take_of_lt h2, List.getElem?_map, List.getElem?_eq_getElem h1, List.getElem?_eq_getElem h2] at e1
  exact h (by simpa using e1)

theorem prefB_yes {l word : List UInt8} (hl : word.length ≤ l.length) (h : ∀ j, (h2 : j < word.length) → lowB (l[j]'(by omega)) = word[j]) : prefB l word = true := by
  unfold prefB
  rw [decide_eq_true_iff]
  apply List.ext_getElem
  · simp; omega
  · intro i h1 h2
    simp
    exact h i h2

end Go.Proofs.Ytfdgmoakobjohaa

/- Part TkE. -/
namespace Go.Proofs.Ytfdgmoakobjohaa
open Go.RowKit
set_option linter.unusedVariables false

structure CalmAt (w : World) (s : ByteArray) (f : List UInt8 → Bool) (l : List UInt8) (pos : Nat) (wr : World) : Prop where
  le : pos ≤ l.length
  it : wr.heap[w.heap.size]? = some (.stringIter s pos)
  bel : Below w.heap.size w wr
  no : ∀ j, j < pos → f (l.drop j) = false

/-- What a search for a place hands back. -/
def Found (f : List UInt8 → Bool) (l : List UInt8) (w : World) (e : Ending) (w' : World) : Prop :=
  ∃ k : Nat, e = .returned (.int .i64 k) ∧ k ≤ l.length ∧ (∀ j, j < k → f (l.drop j) = false) ∧ (k < l.length → f (l.drop k) = true) ∧ Below w.heap.size w w'

end Go.Proofs.Ytfdgmoakobjohaa
