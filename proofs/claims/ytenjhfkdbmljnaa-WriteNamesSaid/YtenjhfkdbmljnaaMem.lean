/- Words on memory: where a slice's elements lie; what stays as it was. -/
import Derived.Test.YtenjhfkdbmljnaaRows
import Derived.WalkKit
import Derived.WalkSpells
import Derived.WalkLawsBesides
import Derived.Lib.Hide
import Derived.Deep.QuietTactic
import Derived.BigQuiet
import Derived.Lib.UnsafeStr
namespace Go.Proofs.Ytenjhfkdbmljnaa
open Go.RowKit
set_option linter.unusedVariables false

theorem ret_int {k : IntKind} {a b : Int} (h : a = b) : Ending.returned (.int k a) = .returned (.int k b) := by rw [h]

/-- The slice with address A holds the cells xs; they lie below block B. -/
def Sits (w : World) (B : Nat) (A : Option Addr) (xs : List Value) : Prop :=
  0 < xs.length → ∃ b o, A = some ⟨b, o, none⟩ ∧ b < B ∧ ∀ j u, xs[j]? = some u → w.cell? ⟨b, o + j, none⟩ = some u

theorem Sits.nil (w : World) (B : Nat) (A : Option Addr) : Sits w B A [] := fun h => absurd h (by simp)

theorem Sits.open_ {w : World} {B : Nat} {A : Option Addr} {xs : List Value} (h : Sits w B A xs) (hx : 0 < xs.length) :
    ∃ b o, A = some ⟨b, o, none⟩ ∧ b < B ∧ ∀ j u, xs[j]? = some u → w.cell? ⟨b, o + j, none⟩ = some u := h hx

theorem Sits.keep {w w' : World} {B : Nat} {A : Option Addr} {xs : List Value} (h : Sits w B A xs) (hk : ∀ b j, b < B → w'.cell? ⟨b, j, none⟩ = w.cell? ⟨b, j, none⟩) : Sits w' B A xs := by
  intro hx
  obtain ⟨b, o, hA, hb, hc⟩ := h hx
  exact ⟨b, o, hA, hb, fun j u hu => (hk b _ hb).trans (hc j u hu)⟩

theorem Sits.below {w w' : World} {B : Nat} {A : Option Addr} {xs : List Value} (h : Sits w B A xs) (hb : Below B w w') : Sits w' B A xs :=
  h.keep fun b j hbB => hb.cell (p := ⟨b, j, none⟩) hbB

theorem Sits.more {w : World} {B B' : Nat} {A : Option Addr} {xs : List Value} (h : Sits w B A xs) (hB : B ≤ B') : Sits w B' A xs := by
  intro hx
  obtain ⟨b, o, hA, hb, hc⟩ := h hx
  exact ⟨b, o, hA, by omega, hc⟩

theorem Sits.take {w : World} {B : Nat} {A : Option Addr} {xs : List Value} (h : Sits w B A xs) (n : Nat) : Sits w B A (xs.take n) := by
  intro hx
  obtain ⟨b, o, hA, hb, hc⟩ := h (by rw [List.length_take] at hx; omega)
  refine ⟨b, o, hA, hb, fun j u hu => hc j u ?_⟩
  rw [List.getElem?_take] at hu
  split at hu
  · exact hu
  · cases hu

/-- What the call owns can be read. -/
theorem Sits.own {w : World} {base : Nat} {e : TypeId} {A : Option Addr} {n c : Nat} {xs : List Value} (h : w.ownsRow base e 1 (.slice A n c) n xs) : Sits w w.heap.size A xs := by
  intro hx
  have hn : 0 < n := by have := h.1; omega
  rcases h.2 with ⟨_, h0⟩ | ⟨g, cap, cur, hv, hg, hh, _⟩
  · omega
  · have hA : A = some ⟨g, 0, none⟩ := by injection hv
    have hc : c = cap := by injection hv
    subst hA
    subst hc
    refine ⟨g, 0, rfl, (Array.getElem?_eq_some_iff.1 hh).1, fun j u hu => ?_⟩
    have hj : j < n := by
      have h1 := (List.getElem?_eq_some_iff.1 hu).1
      have := h.1
      omega
    rw [Nat.zero_add, h.cellAt j (by omega)]
    exact hu

theorem own_shape {w : World} {base : Nat} {e : TypeId} {v : Value} {n : Nat} {xs : List Value} (h : w.ownsRow base e 1 v n xs) : ∃ A c, v = .slice A n c ∧ n ≤ c := by
  rcases h.2 with ⟨hv, h0⟩ | ⟨g, cap, cur, hv, _, _, hn, _⟩
  · subst h0
    exact ⟨none, 0, hv, Nat.le_refl _⟩
  · exact ⟨some ⟨g, 0, none⟩, cap, hv, hn⟩

/-- A new cell, at its address. -/
theorem new_one (w : World) (t : TypeId) (u : Value) : ∀ j x, [u][j]? = some x → (w.alloc (.cells #[u] t)).cell? ((⟨w.heap.size, 0, none⟩ : Addr).add j) = some x := by
  intro j x hj
  match j, hj with
  | 0, hj =>
    simp at hj
    subst hj
    simp [Addr.add]

theorem byteCells_at {l : List UInt8} {j : Nat} (h : j < l.length) : (Lib.byteCells l)[j]? = some (.int .u8 (l.getD j 0).toNat) := by
  unfold Lib.byteCells
  rw [List.getElem?_map, List.getElem?_eq_getElem h]
  simp [List.getD, h]

theorem add_zero_addr (b j : Nat) : (⟨b, 0, none⟩ : Addr).add j = ⟨b, j, none⟩ := by
  unfold Addr.add
  split
  · rename_i h0; subst h0; rfl
  · simp

theorem quiet_here {P : Program} {f : FuncId} {args : Array Value} {w : World} {n : Nat} {v : Value}
    (h : Calls P f args (w.drewN n) fun e w' => e = .returned v ∧ w.drewN n = w') : Calls P f args (w.drewN n) fun e w'' => e = .returned v ∧ ∃ m, w'' = w.drewN m :=
  h.mono fun _ _ ⟨he, hm⟩ => ⟨he, n, hm.symm⟩

theorem at_data (s : ByteArray) (k : Nat) (h : k < s.size) : s.data.toList[k]'(by simpa using h) = s[k] := by
  rw [Array.getElem_toList]
  rfl

end Go.Proofs.Ytenjhfkdbmljnaa
