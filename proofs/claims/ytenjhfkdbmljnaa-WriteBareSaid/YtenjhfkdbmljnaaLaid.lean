/- An element that a program writes out in a region that draws its order: where its parts lie. -/
import Derived.Test.YtenjhfkdbmljnaaTreeL
import Derived.Test.YtenjhfkdbmljnaaOut
namespace Go.Proofs.Ytenjhfkdbmljnaa
open Go.RowKit
set_option linter.unusedVariables false

theorem cells_here {S : Nat → Prop} {W : World} {k : Nat} {cs : Array Value} {t : TypeId} (h : W.heap[k]? = some (.cells cs t (0, 0))) (hS : S k) (xs : List Value) (hx : cs.toList = xs) : Cells S W (some ⟨k, 0, none⟩) xs := by
  intro _
  refine ⟨k, 0, rfl, hS, fun j u hu => ?_⟩
  rw [Nat.zero_add, cell_at h j, ← hu, ← hx]
  simp
theorem attr_here {S : Nat → Prop} {W : World} {k : Nat} {an av : ByteArray} {t : TypeId} (h : W.heap[k]? = some (.cells #[.string an, .string av] t (0, 0))) (hS : S k) : AttrsAt S W [(an, av)] (.slice (some ⟨k, 0, none⟩) 1 1) :=
  ⟨_, 1, rfl, Nat.le_refl _, cells_here h hS _ rfl⟩
theorem kid_here {S : Nat → Prop} {W : World} {k : Nat} {kt : ByteArray} {t : TypeId} (h : W.heap[k]? = some (.cells #[.int .i64 2, .string ⟨#[]⟩, .slice none 0 0, .string kt, .slice none 0 0] t (0, 0))) (hS : S k) :
    Tree S W [.mk 2 ⟨#[]⟩ [] kt []] (.slice (some ⟨k, 0, none⟩) 1 1) :=
  .mk [⟨.mk 2 ⟨#[]⟩ [] kt [], .slice none 0 0, .slice none 0 0⟩] _ _ 1 rfl (Nat.le_refl _) (cells_here h hS _ rfl) (fun r hr => by simp at hr; subst hr; exact AttrsAt.nil _ _) (fun r hr => by simp at hr; subst hr; exact Tree.nil _ _)

/-- All that one node more wants to know. -/
structure Laid (W : World) (base : Nat) (g : List Nd) (v : Value) (r : Rn) (ad : Addr) : Prop where
  own : OwnC W base base g v
  news : ∀ j u, (ncells1 r)[j]? = some u → W.cell? (ad.add j) = some u
  at_ : AttrsAt (Sub base W v) W r.n.attrs r.va
  kids : Tree (Sub base W v) W r.n.kids r.vk
  le : base ≤ W.heap.size

def eltR (an av nm kt : ByteArray) (α β : Nat) : Rn := ⟨elt an av nm kt, .slice (some ⟨α, 0, none⟩) 1 1, .slice (some ⟨β, 0, none⟩) 1 1⟩
def oAt (an av : ByteArray) : Obj := .cells #[.string an, .string av] 35
def oKid (kt : ByteArray) : Obj := .cells #[.int .i64 2, .string ⟨#[]⟩, .slice none 0 0, .string kt, .slice none 0 0] 29
def oElt (nm : ByteArray) (α β : Nat) : Obj := .cells #[.int .i64 1, .string nm, .slice (some ⟨α, 0, none⟩) 1 1, .string ⟨#[]⟩, .slice (some ⟨β, 0, none⟩) 1 1] 29

theorem laid_of {W0 W : World} {base : Nat} {g : List Nd} {v : Value} (h : OwnC W0 base base g v) (hb : base ≤ W0.heap.size) (hB : Below W0.heap.size W0 W) (an av nm kt : ByteArray) {α β γ : Nat}
    (hα : W.heap[α]? = some (.cells #[.string an, .string av] 35 (0, 0))) (hβ : W.heap[β]? = some (.cells #[.int .i64 2, .string ⟨#[]⟩, .slice none 0 0, .string kt, .slice none 0 0] 29 (0, 0)))
    (hγ : W.heap[γ]? = some (.cells #[.int .i64 1, .string nm, .slice (some ⟨α, 0, none⟩) 1 1, .string ⟨#[]⟩, .slice (some ⟨β, 0, none⟩) 1 1] 29 (0, 0)))
    (h1 : W0.heap.size ≤ α) (h2 : W0.heap.size ≤ β) : Laid W base g v (eltR an av nm kt α β) ⟨γ, 0, none⟩ := by
  have lt : ∀ {k : Nat} {o : Obj}, W.heap[k]? = some o → k < W.heap.size := fun h => (Array.getElem?_eq_some_iff.1 h).1
  have sub : ∀ k, W0.heap.size ≤ k → k < W.heap.size → Sub base W v k := by
    intro k h0 hk
    refine ⟨by omega, hk, fun e => ?_⟩
    have := (OwnT.lt h k e).2
    omega
  refine ⟨h.later hB, fun j u hu => ?_, attr_here hα (sub _ h1 (lt hα)), kid_here hβ (sub _ h2 (lt hβ)), Nat.le_trans hb hB.size⟩
  rw [add_zero_addr, cell_at hγ j]
  have hu' : [Value.int IntKind.i64 1, Value.string nm, Value.slice (some ⟨α, 0, none⟩) 1 1, Value.string ⟨#[]⟩, Value.slice (some ⟨β, 0, none⟩) 1 1][j]? = some u := hu
  simpa using hu'

theorem alloc_past {W : World} {o : Obj} {k : Nat} {x : Obj} (h : W.heap[k]? = some x) : (W.alloc o).heap[k]? = some x := by
  have hlt : k < W.heap.size := (Array.getElem?_eq_some_iff.1 h).1
  exact (Below.heap_alloc W o k hlt).trans h
theorem alloc_here' {W : World} {k : Nat} {cs : Array Value} {t : TypeId} (h : W.heap.size = k) : (W.alloc (.cells cs t)).heap[k]? = some (.cells cs t (0, 0)) := by subst h; exact box_here W cs t

theorem below1 (w : World) (a : Obj) : Below w.heap.size w (w.alloc a).drew := ((Below.refl _ w).alloc (Nat.le_refl _) _).drew
theorem below2 (w : World) (a b : Obj) : Below w.heap.size w ((w.alloc a).alloc b).drew := (((Below.refl _ w).alloc (Nat.le_refl _) _).alloc (by simp) _).drew
theorem below3 (w : World) (a b c : Obj) : Below w.heap.size w (((w.alloc a).alloc b).alloc c).drew := ((((Below.refl _ w).alloc (Nat.le_refl _) _).alloc (by simp) _).alloc (by simp; omega) _).drew

theorem laid1 {w : World} {base : Nat} {g : List Nd} {v : Value} (h : OwnC w base base g v) (hb : base ≤ w.heap.size) (an av nm kt : ByteArray) :
    Laid (((w.alloc (oAt an av)).alloc (oKid kt)).alloc (oElt nm w.heap.size (w.heap.size + 1))).drew base g v (eltR an av nm kt w.heap.size (w.heap.size + 1)) ⟨w.heap.size + 2, 0, none⟩ := by
  have h1 : (((w.alloc (oAt an av)).alloc (oKid kt)).alloc (oElt nm w.heap.size (w.heap.size + 1))).heap[w.heap.size]? = _ := alloc_past (alloc_past (alloc_here' rfl))
  have h2 : (((w.alloc (oAt an av)).alloc (oKid kt)).alloc (oElt nm w.heap.size (w.heap.size + 1))).heap[w.heap.size + 1]? = _ := alloc_past (alloc_here' (by simp))
  have h3 : (((w.alloc (oAt an av)).alloc (oKid kt)).alloc (oElt nm w.heap.size (w.heap.size + 1))).heap[w.heap.size + 2]? = _ := alloc_here' (by simp)
  exact laid_of h hb (below3 _ _ _ _) an av nm kt h1 h2 h3 (Nat.le_refl _) (by omega)
theorem laid2 {w : World} {base : Nat} {g : List Nd} {v : Value} (h : OwnC w base base g v) (hb : base ≤ w.heap.size) (an av nm kt : ByteArray) :
    Laid (((w.alloc (oKid kt)).alloc (oAt an av)).alloc (oElt nm (w.heap.size + 1) w.heap.size)).drew base g v (eltR an av nm kt (w.heap.size + 1) w.heap.size) ⟨w.heap.size + 2, 0, none⟩ := by
  have h1 : (((w.alloc (oKid kt)).alloc (oAt an av)).alloc (oElt nm (w.heap.size + 1) w.heap.size)).heap[w.heap.size + 1]? = _ := alloc_past (alloc_here' (by simp))
  have h2 : (((w.alloc (oKid kt)).alloc (oAt an av)).alloc (oElt nm (w.heap.size + 1) w.heap.size)).heap[w.heap.size]? = _ := alloc_past (alloc_past (alloc_here' rfl))
  have h3 : (((w.alloc (oKid kt)).alloc (oAt an av)).alloc (oElt nm (w.heap.size + 1) w.heap.size)).heap[w.heap.size + 2]? = _ := alloc_here' (by simp)
  exact laid_of h hb (below3 _ _ _ _) an av nm kt h1 h2 h3 (by omega) (Nat.le_refl _)

/-- A cell of what came in, behind the append. -/
theorem far_in {w wr W w4 : World} {g : List Nd} {v : Value} (h : OwnC wr w.heap.size w.heap.size g v) (hb : Below wr.heap.size wr W) (hg : W.grownBy w4 v.ownBlock) {p : Addr} (hp : p.block < w.heap.size) (hw : w.heap.size ≤ wr.heap.size) : w4.cell? p = wr.cell? p := by
  refine (World.cell?_of_block (hg.block p.block (Nat.lt_of_lt_of_le (Nat.lt_of_lt_of_le hp hw) hb.size) (fun e => ?_))).trans (hb.cell (Nat.lt_of_lt_of_le hp hw))
  have := (OwnT.lt h _ e.symm).1
  omega

end Go.Proofs.Ytenjhfkdbmljnaa
