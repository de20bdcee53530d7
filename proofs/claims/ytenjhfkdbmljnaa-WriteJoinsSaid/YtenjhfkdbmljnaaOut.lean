/- A function that is handed over and told a text piece by piece: what its caller may know of it. -/
import Derived.Test.YtenjhfkdbmljnaaTreeA
import Derived.Test.YtenjhfkdbmljnaaTxtM
import Derived.Lib.OthersKept
namespace Go.Proofs.Ytenjhfkdbmljnaa
open Go.RowKit
set_option linter.unusedVariables false

theorem dN_below {B : Nat} {a w : World} (h : Below B a w) (n : Nat) : Below B a (w.drewN n) := h.trans ⟨rfl, rfl, rfl, Nat.le_refl _, fun _ _ => rfl⟩

/-- Every block but b, and but rows of bytes, stands as it stood. -/
abbrev Oth (b : Nat) (W W' : World) : Prop := Lib.OthersKept 5 (some b) W W'
theorem Oth.box {b k : Nat} {W W' : World} {cs : Array Value} {t : TypeId} (h : Oth b W W') (hk : W.heap[k]? = some (.cells cs t (0, 0))) (hb : k ≠ b) (ht : t ≠ 5) : W'.heap[k]? = some (.cells cs t (0, 0)) :=
  h k _ hk (fun e => hb (Option.some.inj e)) (fun c fz e => ht (by injection e))
theorem Oth.below {b : Nat} {W W' : World} (h : Below W.heap.size W W') : Oth b W W' := fun k o hk _ _ => by
  have hlt : k < W.heap.size := (Array.getElem?_eq_some_iff.1 hk).1
  exact (h.block k hlt).trans hk
theorem cell_at {W : World} {k : Nat} {cs : Array Value} {t : TypeId} (h : W.heap[k]? = some (.cells cs t (0, 0))) (j : Nat) : W.cell? ⟨k, j, none⟩ = cs[j]? := by simp [World.cell?, h]
theorem box_here (W : World) (cs : Array Value) (t : TypeId) : (W.alloc (.cells cs t)).heap[W.heap.size]? = some (.cells cs t (0, 0)) := heap_alloc_new W _

/-- The function g, over the variable b that it has taken along, is told pieces: Inv says what it has been told; it changes nothing but its own. -/
structure Out (n0 : Nat) (w0 : World) (g : FuncId) (b M : Nat) (Inv : List UInt8 → World → Prop) : Prop where
  ent : ∀ args w, (callFunc g args).run Try.prog w = .ok (.enter g args) w
  call : ∀ (acc : List UInt8) (s : ByteArray) (W : World), Inv acc W → acc.length + s.data.toList.length ≤ M →
    Calls Try.prog g #[.string s, .pointer (some ⟨b, 0, none⟩)] W fun e W' => e = .returned (.tuple #[]) ∧ Inv (acc ++ s.data.toList) W' ∧ Oth b W W'
  bel : ∀ acc W, Inv acc W → Below n0 w0 W
  new : ∀ acc W W', Inv acc W → Below W.heap.size W W' → Inv acc W'
  lt : ∀ acc W, Inv acc W → b < W.heap.size

/-- What a call that tells pieces hands back. -/
def Told (Inv : List UInt8 → World → Prop) (b : Nat) (W : World) (acc : List UInt8) (e : Ending) (W' : World) : Prop :=
  e = .returned (.tuple #[]) ∧ Inv acc W' ∧ Oth b W W'

end Go.Proofs.Ytenjhfkdbmljnaa
