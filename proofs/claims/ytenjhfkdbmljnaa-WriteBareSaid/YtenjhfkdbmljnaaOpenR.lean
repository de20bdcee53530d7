/- From a row's reading of an argument to the words of the walks: lists of texts, within the form's own reach. -/
import Derived.Test.YtenjhfkdbmljnaaOpenS
import Derived.SizedLaws
namespace Go.Proofs.Ytenjhfkdbmljnaa
open Go.RowKit Go.ChangeShapes Go.WideShapes Go.ChangeAt
set_option linter.unusedVariables false

theorem weightsAll_mem {H : Type} {P : Program} {e : TypeId} : ∀ {l : List (DataW H)} {i : Nat} {d : DataW H}, l[i]? = some d → ∀ {n : Nat}, n ∈ d.weights P e → n ∈ DataW.weightsAll P e l
  | x :: l, 0, d, h, n, hn => by
    simp at h
    subst h
    simp only [DataW.weightsAll, List.mem_append]
    exact .inl hn
  | x :: l, i + 1, d, h, n, hn => by
    simp only [DataW.weightsAll, List.mem_append]
    exact .inr (weightsAll_mem (i := i) (by simpa using h) hn)
  | [], i, d, h, n, hn => by simp at h
theorem weights_slice {H : Type} (a b : List (DataW H)) : DataW.weights Try.prog 33 (.slice a b) = (a.length + b.length) * Try.prog.bytesOf 9 :: (DataW.weightsAll Try.prog 9 a ++ DataW.weightsAll Try.prog 9 b) := by
  simp only [DataW.weights, Try.underlying33]
/-- The form's own reach, at one argument. -/
theorem reach_at {H : Type} {P : Program} {ts : List TypeId} {ds : List (DataW H)} (h : (DataW.weightsEach P ts ds).all (· ≤ reachBytes) = true) {j : Nat} {t : TypeId} {d : DataW H} (ht : ts[j]? = some t) (hd : ds[j]? = some d) : ∀ n ∈ d.weights P t, n ≤ reachBytes := fun n hn => by
  have := List.all_eq_true.1 h _ (DataW.weights_mem_each ht hd n hn)
  simpa using this

theorem open_stringsR {H : Type} {enc : TypeId × Value → H} {w : World} {base : Nat} {spare : Nat → Bool} {held : Bool} {fuel len cap : Nat} {a : Option Addr} {x : DataW H × List MemPlace}
    (h : DataW.trod enc Try.prog w base spare held fuel 33 [.slice a len cap] = some x) (hw : ∀ n ∈ x.1.weights Try.prog 33, n ≤ reachBytes) :
    ∃ ls : List ByteArray, len = ls.length ∧ len ≤ cap ∧ len ≤ maxLen ∧ (∀ s ∈ ls, s.size ≤ 140737488351232) ∧ Cells (· < w.heap.size) w a (ls.map Value.string) := by
  have C9 : Try.prog.cellsOf 9 = 1 := by kernel_rfl
  rcases DataW.trod_slice Try.underlying33 h with ⟨hcs, _⟩ | ⟨a, len, cap, elems, rest, n, _, hcs, hxe, _, hl, hm, hlen, hel, _, _⟩
  · simp at hcs
    obtain ⟨rfl, rfl, rfl⟩ := hcs
    exact ⟨[], rfl, Nat.le_refl _, by unfold maxLen; omega, by simp, Cells.nil _ _ _⟩
  · simp at hcs
    obtain ⟨rfl, rfl, rfl⟩ := hcs
    rw [C9] at hel
    rename_i len' cap' _
    rw [hxe] at hw
    have key : ∀ i, i < len → ∃ s : ByteArray, w.cell? (a.add i) = some (.string s) ∧ s.size ≤ 140737488351232 := by
      intro i hi
      have e := hel i hi
      rw [List.getElem?_eq_getElem (by omega)] at e
      obtain ⟨cs', h1, h2⟩ := Option.bind_eq_some_iff.1 e
      obtain ⟨_, hcl, hat⟩ := World.cells?_some h1
      match cs', hcl with
      | [c0], _ =>
        obtain ⟨s0, e0, e1', z0⟩ := DataW.trod_string Try.underlying9 h2
        have e1 := congrArg Prod.fst e1'
        simp only at e1
        simp at e0
        subst e0
        have hmem : s0.data.toList.length ∈ DataW.weights Try.prog 33 (.slice (elems.map (·.1)) (rest.map (·.1))) := by
          rw [weights_slice]
          refine List.mem_cons_of_mem _ (List.mem_append_left _ ?_)
          refine weightsAll_mem (i := i) (d := .lit (.string s0.data.toList)) ?_ ?_
          · rw [List.getElem?_map, List.getElem?_eq_getElem (by omega)]
            exact congrArg some e1
          · simp [DataW.weights]
        have h9 := hw _ hmem
        have h8 : s0.data.toList.length = s0.size := by simp
        refine ⟨s0, ?_, by rw [← h8]; exact h9⟩
        have := hat 0 (by decide)
        simpa [Addr.add] using this
    obtain ⟨ls, hll, hlp⟩ := some_each len key
    refine ⟨ls, hll.symm, hl, by omega, fun s hs => ?_, ?_⟩
    · obtain ⟨i, hi, he⟩ := List.mem_iff_getElem.1 hs
      exact (hlp i s (by rw [List.getElem?_eq_getElem hi, he])).2
    · intro hx
      rw [List.length_map] at hx
      obtain ⟨y0, hy0⟩ : ∃ y, ls[0]? = some y := ⟨_, List.getElem?_eq_getElem hx⟩
      have h00 := (hlp 0 y0 hy0).1
      have hs : a.spot = none := by simpa [Addr.add] using World.cell?_spot h00
      obtain ⟨b, o, sp⟩ := a
      simp only at hs
      subst hs
      have hb : b < w.heap.size := by
        rcases Nat.lt_or_ge b w.heap.size with hlt | hge
        · exact hlt
        · unfold World.cell? at h00
          rw [add_off, Array.getElem?_eq_none hge] at h00
          cases h00
      refine ⟨b, o, rfl, hb, fun j u hu => ?_⟩
      rw [List.getElem?_map] at hu
      cases hj : ls[j]? with
      | none => rw [hj] at hu; cases hu
      | some y =>
        rw [hj] at hu
        have := (hlp j y hj).1
        rw [add_off] at this
        rw [this]
        exact hu

end Go.Proofs.Ytenjhfkdbmljnaa
