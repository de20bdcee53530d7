/- How many < the text of plain elements has: plain facts for WriteBare. -/
import Derived.Test.YtenjhfkdbmljnaaTxtM
namespace Go.Proofs.Ytenjhfkdbmljnaa
set_option linter.unusedVariables false

/-- Of what is written no byte is <, in a text or in a value. -/
theorem wr_no60 (v : Bool) (x : UInt8) : ∀ c ∈ wrC v x, c ≠ 60 := by
  unfold wrC
  by_cases h1 : x = 38
  · subst h1; cases v <;> decide
  by_cases h2 : x = 60
  · subst h2; cases v <;> decide
  by_cases h3 : x = 62
  · subst h3; cases v <;> decide
  by_cases h4 : x = 34 ∧ v = true
  · obtain ⟨h4, h5⟩ := h4
    subst h4
    subst h5
    decide
  have e : wrB v x = [] := by
    unfold wrB
    rw [if_neg h1, if_neg h2, if_neg h3, if_neg h4]
  rw [if_pos e]
  intro c hc
  simp at hc
  subst hc
  exact h2
theorem esc_no60 (v : Bool) (l : List UInt8) : (escB v l).count 60 = 0 := by
  rw [List.count_eq_zero]
  intro h
  unfold escB at h
  obtain ⟨x, _, hx⟩ := List.mem_flatMap.1 h
  exact wr_no60 v x 60 hx rfl

/-- Texts alone have none. -/
theorem texts_cnt : ∀ l : List Nd, (∀ q ∈ l, q.kind = 2) → (txtL false l).count 60 = 0
  | [], _ => by rw [txtL_nil]; rfl
  | n :: l, h => by
    have hk := h n (by simp)
    rw [txtL_cons, List.count_append, texts_cnt l (fun q hq => h q (List.mem_cons_of_mem _ hq)), txtN_eq, if_neg (by omega), if_pos hk, if_neg (by decide), esc_no60]
theorem atts_cnt : ∀ l : List (ByteArray × ByteArray), (∀ a ∈ l, (a.1.data.toList).count 60 = 0) → (l.flatMap attT).count 60 = 0
  | [], _ => rfl
  | a :: l, h => by
    rw [List.flatMap_cons, List.count_append, atts_cnt l (fun q hq => h q (List.mem_cons_of_mem _ hq))]
    unfold attT
    rw [List.count_cons_of_ne (by decide), List.count_append, h a (by simp), List.count_cons_of_ne (by decide), List.count_cons_of_ne (by decide), List.count_append, esc_no60]
    rfl
/-- An element of a name without <, attributes' names without <, texts alone for kids: two. -/
theorem elem_cnt {m : Nd} (h1 : m.kind = 1) (hn : m.name.data.toList.count 60 = 0) (hv : voidB m.name.data.toList = false) (hr : rawB m.name.data.toList = false) (ha : ∀ a ∈ m.attrs, (a.1.data.toList).count 60 = 0) (hk : ∀ q ∈ m.kids, q.kind = 2) :
    (txtN false m).count 60 = 2 := by
  have e1 : (openT m).count 60 = 1 := by
    unfold openT
    rw [List.count_cons_self, List.count_append, hn, List.count_append, atts_cnt _ ha]
    rfl
  have e2 : (closeT m).count 60 = 1 := by
    unfold closeT
    rw [List.count_cons_self, List.count_cons_of_ne (by decide), List.count_append, hn]
    rfl
  rw [txtN_eq, if_neg (by omega), if_neg (by omega), if_pos h1, hv, if_neg (by decide), hr, List.count_append, List.count_append, texts_cnt _ hk, e1, e2]
theorem list_cnt : ∀ l : List Nd, (∀ m ∈ l, (txtN false m).count 60 = 2) → (txtL false l).count 60 = 2 * l.length
  | [], _ => by rw [txtL_nil]; rfl
  | m :: l, h => by
    rw [txtL_cons, List.count_append, h m (by simp), list_cnt l (fun q hq => h q (List.mem_cons_of_mem _ hq)), List.length_cons]
    omega

end Go.Proofs.Ytenjhfkdbmljnaa
