/- From a row's reading of an argument to the words of the walks: lists of texts. -/
import Derived.Test.YtenjhfkdbmljnaaTree
import Derived.ChangeArms
import Derived.DataReads
import Derived.ProofKit
import Derived.OpenShut
namespace Go.Proofs.Ytenjhfkdbmljnaa
open Go.RowKit Go.ChangeShapes Go.WideShapes Go.ChangeAt
set_option linter.unusedVariables false

theorem add_off (b o n : Nat) : (⟨b, o, none⟩ : Addr).add n = ⟨b, o + n, none⟩ := by
  unfold Addr.add
  split
  · rename_i h; subst h; rfl
  · rfl

theorem some_each {α : Type} {P : Nat → α → Prop} : ∀ (n : Nat), (∀ i, i < n → ∃ x, P i x) → ∃ R : List α, R.length = n ∧ ∀ i x, R[i]? = some x → P i x
  | 0, _ => ⟨[], rfl, by simp⟩
  | n + 1, h => by
    obtain ⟨R, hl, hR⟩ := some_each n fun i hi => h i (by omega)
    obtain ⟨x, hx⟩ := h n (by omega)
    refine ⟨R ++ [x], by simp [hl], fun i y hy => ?_⟩
    by_cases hi : i < R.length
    · rw [List.getElem?_append_left hi] at hy
      exact hR i y hy
    · have hlt := (List.getElem?_eq_some_iff.1 hy).1
      rw [List.length_append, List.length_singleton] at hlt
      have : i = R.length := by omega
      subst this
      simp at hy
      subst hy
      rw [hl]
      exact hx

theorem open_strings {H : Type} {enc : TypeId × Value → H} {w : World} {base : Nat} {spare : Nat → Bool} {held : Bool} {fuel len cap : Nat} {a : Option Addr} {x : DataW H × List MemPlace}
    (h : DataW.trod enc Try.prog w base spare held fuel 33 [.slice a len cap] = some x) :
    ∃ ls : List ByteArray, len = ls.length ∧ len ≤ cap ∧ len ≤ maxLen ∧ (∀ s ∈ ls, s.size ≤ maxLen) ∧ Cells (· < w.heap.size) w a (ls.map Value.string) := by
  have C9 : Try.prog.cellsOf 9 = 1 := by kernel_rfl
  rcases DataW.trod_slice Try.underlying33 h with ⟨hcs, _⟩ | ⟨a, len, cap, elems, rest, n, _, hcs, _, _, hl, hm, hlen, hel, _, _⟩
  · simp at hcs
    obtain ⟨rfl, rfl, rfl⟩ := hcs
    exact ⟨[], rfl, Nat.le_refl _, by unfold maxLen; omega, by simp, Cells.nil _ _ _⟩
  · simp at hcs
    obtain ⟨rfl, rfl, rfl⟩ := hcs
    rw [C9] at hel
    rename_i len' cap' _
    have key : ∀ i, i < len → ∃ s : ByteArray, w.cell? (a.add i) = some (.string s) ∧ s.size ≤ maxLen := by
      intro i hi
      have e := hel i hi
      rw [List.getElem?_eq_getElem (by omega)] at e
      obtain ⟨cs', h1, h2⟩ := Option.bind_eq_some_iff.1 e
      obtain ⟨_, hcl, hat⟩ := World.cells?_some h1
      match cs', hcl with
      | [c0], _ =>
        obtain ⟨s0, e0, _, z0⟩ := DataW.trod_string Try.underlying9 h2
        simp at e0
        subst e0
        refine ⟨s0, ?_, z0⟩
        have := hat 0 (by decide)
        simpa [Addr.add] using this
    obtain ⟨ls, hll, hlp⟩ := some_each len key
    refine ⟨ls, hll.symm, hl, by omega, fun s hs => ?_, ?_⟩
    · obtain ⟨i, hi, he⟩ := List.mem_iff_getElem.1 hs
      exact (hlp i s (by rw [List.getElem?_eq_getElem hi, he])).2
    · intro hx
      rw [List.length_map] at hx
      obtain ⟨y0, hy0⟩ : ∃ y, ls[0]? = some y := ⟨_, List.getElem?_eq_getElem hx⟩
      have h00 := (hlp 0 y0 hy0).1
      have hs : a.spot = none := by simpa [Addr.add] using World.cell?_spot h00
      obtain ⟨b, o, sp⟩ := a
      simp only at hs
      subst hs
      have hb : b < w.heap.size := by
        rcases Nat.lt_or_ge b w.heap.size with hlt | hge
        · exact hlt
        · unfold World.cell? at h00
          rw [add_off, Array.getElem?_eq_none hge] at h00
          cases h00
      refine ⟨b, o, rfl, hb, fun j u hu => ?_⟩
      rw [List.getElem?_map] at hu
      cases hj : ls[j]? with
      | none => rw [hj] at hu; cases hu
      | some y =>
        rw [hj] at hu
        have := (hlp j y hj).1
        rw [add_off] at this
        rw [this]
        exact hu

end Go.Proofs.Ytenjhfkdbmljnaa
