/- From a row's reading of an argument to the words of the walks: lists of nodes. -/
import Derived.Test.YtialfafjoemppaaK01
import Derived.Test.YtialfafjoemppaaK11
import Derived.ChangeArms
import Derived.DataReads
import Derived.Deep.Fields
import Derived.ProofKit
import Derived.OpenShut

namespace Go.Proofs.Ytialfafjoemppaa
open Go.RowKit Go.ChangeShapes Go.WideShapes Go.ChangeAt
set_option linter.unusedVariables false
set_option maxRecDepth 100000

theorem add_none (b o n : Nat) : (⟨b, o, none⟩ : Addr).add n = ⟨b, o + n, none⟩ := by
  unfold Addr.add
  split
  · rename_i h; subst h; rfl
  · rfl

theorem cell_below {w : World} {p : Addr} {v : Value} (h : w.cell? p = some v) : p.block < w.heap.size := by
  rcases Nat.lt_or_ge p.block w.heap.size with hlt | hge
  · exact hlt
  · unfold World.cell? at h
    rw [Array.getElem?_eq_none hge] at h
    cases h

/-- Of each place something: a list of them. -/
theorem list_of {α : Type} {P : Nat → α → Prop} : ∀ (n : Nat), (∀ i, i < n → ∃ x, P i x) → ∃ R : List α, R.length = n ∧ ∀ i x, R[i]? = some x → P i x
  | 0, _ => ⟨[], rfl, by simp⟩
  | n + 1, h => by
    obtain ⟨R, hl, hR⟩ := list_of n fun i hi => h i (by omega)
    obtain ⟨x, hx⟩ := h n (by omega)
    refine ⟨R ++ [x], by simp [hl], fun i y hy => ?_⟩
    by_cases hi : i < R.length
    · rw [List.getElem?_append_left hi] at hy
      exact hR i y hy
    · have hlt := (List.getElem?_eq_some_iff.1 hy).1
      rw [List.length_append, List.length_singleton] at hlt
      have : i = R.length := by omega
      subst this
      simp at hy
      subst hy
      rw [hl]
      exact hx

section
variable {H : Type} {enc : TypeId × Value → H} {w : World} {base : Nat} {spare : Nat → Bool} {held : Bool}

/-- A row's address, if there is a cell at its head. -/
theorem head_addr {a : Addr} {v : Value} (h : w.cell? (a.add 0) = some v) : ∃ b o, a = ⟨b, o, none⟩ ∧ b < w.heap.size := by
  have hs : a.spot = none := by simpa [Addr.add] using World.cell?_spot h
  obtain ⟨b, o, sp⟩ := a
  simp only at hs
  subst hs
  exact ⟨b, o, rfl, by simpa [Addr.add] using cell_below h⟩

theorem open_attrs {fuel : Nat} {v : Value} {x : DataW H × List MemPlace} (h : DataW.trod enc Try.prog w base spare held fuel 26 [v] = some x) :
    ∃ l : List (ByteArray × ByteArray), AttrsAt (· < w.heap.size) w l v ∧ l.length ≤ maxLen ∧ ∀ a ∈ l, a.1.size ≤ maxLen ∧ a.2.size ≤ maxLen := by
  have hC : Try.prog.cellsOf 40 = 2 := by kernel_rfl
  have C9 : Try.prog.cellsOf 9 = 1 := by kernel_rfl
  rcases DataW.trod_slice Try.underlying26 h with ⟨hcs, _⟩ | ⟨a, len, cap, elems, rest, n, _, hcs, _, _, hl, hm, hlen, hel, _, _⟩
  · simp at hcs
    subst hcs
    exact ⟨[], AttrsAt.nil _ _, by unfold maxLen; simp, by simp⟩
  · simp at hcs
    subst hcs
    rw [hC] at hel
    have key : ∀ i, i < len → ∃ y : ByteArray × ByteArray, (∀ k u, [Value.string y.1, .string y.2][k]? = some u → w.cell? ((a.add (i * 2)).add k) = some u) ∧ y.1.size ≤ maxLen ∧ y.2.size ≤ maxLen := by
      intro i hi
      have e := hel i hi
      rw [List.getElem?_eq_getElem (by omega)] at e
      obtain ⟨cs', h1, h2⟩ := Option.bind_eq_some_iff.1 e
      obtain ⟨_, hcl, hat⟩ := World.cells?_some h1
      obtain ⟨xs, n', _, _, _, hxl, hf⟩ := DataW.trod_struct Try.underlying40 h2
      match cs', hcl with
      | [c0, c1], _ =>
        have f0 : DataW.trod enc Try.prog w base spare held n' 9 ((List.drop 0 [c0, c1]).take (Try.prog.cellsOf 9)) = xs[0]? := hf 0 _ rfl
        have f1 : DataW.trod enc Try.prog w base spare held n' 9 ((List.drop 1 [c0, c1]).take (Try.prog.cellsOf 9)) = xs[1]? := hf 1 _ rfl
        rw [C9, List.getElem?_eq_getElem (by rw [hxl]; decide)] at f0
        rw [C9, List.getElem?_eq_getElem (by rw [hxl]; decide)] at f1
        obtain ⟨s0, e0, _, z0⟩ := DataW.trod_string Try.underlying9 f0
        obtain ⟨s1, e1, _, z1⟩ := DataW.trod_string Try.underlying9 f1
        simp at e0 e1
        subst e0
        subst e1
        refine ⟨(s0, s1), fun k u hk => ?_, z0, z1⟩
        have hk2 : k < 2 := (List.getElem?_eq_some_iff.1 hk).1
        rw [hat k hk2]
        exact hk
    obtain ⟨l, hll, hlp⟩ := list_of len key
    refine ⟨l, ⟨some a, cap, by rw [hll], by omega, ?_⟩, by unfold maxLen at *; omega, ?_⟩
    · intro hx
      rw [acells_length] at hx
      obtain ⟨y0, hy0⟩ : ∃ y, l[0]? = some y := ⟨_, List.getElem?_eq_getElem (by omega)⟩
      have h00 := (hlp 0 y0 hy0).1 0 _ rfl
      obtain ⟨b, o, rfl, hb⟩ := head_addr (a := a) (v := .string y0.1) (by simpa [Addr.add] using h00)
      refine ⟨b, o, rfl, hb, fun j u hu => ?_⟩
      have hj := (List.getElem?_eq_some_iff.1 hu).1
      rw [acells_length] at hj
      obtain ⟨y, hy⟩ : ∃ y, l[j / 2]? = some y := ⟨_, List.getElem?_eq_getElem (by omega)⟩
      have hp := (hlp (j / 2) y hy).1
      have ha := acells_at hy
      rcases (show j = j / 2 * 2 ∨ j = j / 2 * 2 + 1 by omega) with hj2 | hj2
      · have := hp 0 _ rfl
        rw [add_none, add_none, Nat.add_assoc, Nat.add_zero, ← hj2] at this
        rw [this]
        rw [← hj2] at ha
        exact (ha.1.symm.trans hu)
      · have := hp 1 _ rfl
        rw [add_none, add_none, Nat.add_assoc, ← hj2] at this
        rw [this]
        rw [← hj2] at ha
        exact (ha.2.symm.trans hu)
    · intro y hy
      obtain ⟨i, hi, he⟩ := List.mem_iff_getElem.1 hy
      exact (hlp i y (by rw [List.getElem?_eq_getElem hi, he])).2

/-- What is told of a node at its place. -/
def NodeP (w : World) (a : Addr) (i : Nat) (r : Rn) : Prop :=
  (∀ k u, (ncells1 r)[k]? = some u → w.cell? ((a.add (i * 5)).add k) = some u) ∧ AttrsAt (· < w.heap.size) w r.n.attrs r.va ∧ Tree (· < w.heap.size) w r.n.kids r.vk ∧ FineN r.n ∧ Fine r.n.kids

theorem nodes_close {a : Addr} {len cap : Nat} {R : List Rn} (hR : R.length = len) (hl : len ≤ cap) (hm : cap ≤ maxLen) (hp : ∀ i r, R[i]? = some r → NodeP w a i r) :
    Tree (· < w.heap.size) w (R.map Rn.n) (.slice (some a) len cap) ∧ Fine (R.map Rn.n) := by
  have hmem : ∀ r ∈ R, ∃ i, NodeP w a i r := by
    intro r hr
    obtain ⟨i, hi, he⟩ := List.mem_iff_getElem.1 hr
    exact ⟨i, hp i r (by rw [List.getElem?_eq_getElem hi, he])⟩
  constructor
  · have := Tree.mk (S := (· < w.heap.size)) (w := w) R (R.map Rn.n) (some a) cap rfl (by rw [List.length_map]; omega) ?_ (fun r hr => (hmem r hr).choose_spec.2.1) (fun r hr => (hmem r hr).choose_spec.2.2.1)
    · rw [List.length_map, hR] at this
      exact this
    · intro hx
      rw [ncells_length] at hx
      obtain ⟨y0, hy0⟩ : ∃ y, R[0]? = some y := ⟨_, List.getElem?_eq_getElem (by omega)⟩
      have h00 := (hp 0 y0 hy0).1 0 _ rfl
      obtain ⟨b, o, rfl, hb⟩ := head_addr (a := a) (v := .int .i64 y0.n.kind) (by simpa [Addr.add] using h00)
      refine ⟨b, o, rfl, hb, fun j u hu => ?_⟩
      have hj := (List.getElem?_eq_some_iff.1 hu).1
      rw [ncells_length] at hj
      obtain ⟨y, hy⟩ : ∃ y, R[j / 5]? = some y := ⟨_, List.getElem?_eq_getElem (by omega)⟩
      have hq := (hp (j / 5) y hy).1
      have ha := ncells_at hy
      rcases (show j = j / 5 * 5 ∨ j = j / 5 * 5 + 1 ∨ j = j / 5 * 5 + 2 ∨ j = j / 5 * 5 + 3 ∨ j = j / 5 * 5 + 4 by omega) with hj2 | hj2 | hj2 | hj2 | hj2
      · have := hq 0 _ rfl
        rw [add_none, add_none, Nat.add_assoc, Nat.add_zero, ← hj2] at this
        rw [this]
        rw [← hj2] at ha
        exact ha.1.symm.trans hu
      · have := hq 1 _ rfl
        rw [add_none, add_none, Nat.add_assoc, ← hj2] at this
        rw [this]
        have ha := ha.2.1
        rw [← hj2] at ha
        exact ha.symm.trans hu
      · have := hq 2 _ rfl
        rw [add_none, add_none, Nat.add_assoc, ← hj2] at this
        rw [this]
        have ha := ha.2.2.1
        rw [← hj2] at ha
        exact ha.symm.trans hu
      · have := hq 3 _ rfl
        rw [add_none, add_none, Nat.add_assoc, ← hj2] at this
        rw [this]
        have ha := ha.2.2.2.1
        rw [← hj2] at ha
        exact ha.symm.trans hu
      · have := hq 4 _ rfl
        rw [add_none, add_none, Nat.add_assoc, ← hj2] at this
        rw [this]
        have ha := ha.2.2.2.2
        rw [← hj2] at ha
        exact ha.symm.trans hu
  · refine .mk _ (by rw [List.length_map]; omega) ?_ ?_
    · intro n hn
      obtain ⟨r, hr, rfl⟩ := List.mem_map.1 hn
      exact (hmem r hr).choose_spec.2.2.2.1
    · intro n hn
      obtain ⟨r, hr, rfl⟩ := List.mem_map.1 hn
      exact (hmem r hr).choose_spec.2.2.2.2

theorem open_nodes : ∀ (F fuel : Nat) (v : Value) (x : DataW H × List MemPlace), fuel ≤ F → DataW.trod enc Try.prog w base spare held fuel 22 [v] = some x →
    ∃ l : List Nd, Tree (· < w.heap.size) w l v ∧ Fine l := by
  intro F
  induction F with
  | zero =>
    intro fuel v x hF h
    obtain rfl : fuel = 0 := by omega
    simp [DataW.trod] at h
  | succ F ih =>
    intro fuel v x hF h
    have hC : Try.prog.cellsOf 28 = 5 := by kernel_rfl
    have C3 : Try.prog.cellsOf 3 = 1 := by kernel_rfl
    have C9 : Try.prog.cellsOf 9 = 1 := by kernel_rfl
    have CA : Try.prog.cellsOf 26 = 1 := by kernel_rfl
    have CN : Try.prog.cellsOf 22 = 1 := by kernel_rfl
    rcases DataW.trod_slice Try.underlying22 h with ⟨hcs, _⟩ | ⟨a, len, cap, elems, rest, n, hfu, hcs, _, _, hl, hm, hlen, hel, _, _⟩
    · simp at hcs
      subst hcs
      exact ⟨[], Tree.nil _ _, .mk [] (by simp) (by simp) (by simp)⟩
    · simp at hcs
      subst hcs
      rw [hC] at hel
      have key : ∀ i, i < len → ∃ r : Rn, NodeP w a i r := by
        intro i hi
        have e := hel i hi
        rw [List.getElem?_eq_getElem (by omega)] at e
        obtain ⟨cs', h1, h2⟩ := Option.bind_eq_some_iff.1 e
        obtain ⟨_, hcl, hat⟩ := World.cells?_some h1
        obtain ⟨xs, n', hn', _, _, hxl, hf⟩ := DataW.trod_struct Try.underlying28 h2
        match cs', hcl with
        | [c0, c1, c2, c3, c4], _ =>
          have f0 : DataW.trod enc Try.prog w base spare held n' 3 ((List.drop 0 [c0, c1, c2, c3, c4]).take (Try.prog.cellsOf 3)) = xs[0]? := hf 0 _ rfl
          have f1 : DataW.trod enc Try.prog w base spare held n' 9 ((List.drop 1 [c0, c1, c2, c3, c4]).take (Try.prog.cellsOf 9)) = xs[1]? := hf 1 _ rfl
          have f2 : DataW.trod enc Try.prog w base spare held n' 26 ((List.drop 2 [c0, c1, c2, c3, c4]).take (Try.prog.cellsOf 26)) = xs[2]? := hf 2 _ rfl
          have f3 : DataW.trod enc Try.prog w base spare held n' 9 ((List.drop 3 [c0, c1, c2, c3, c4]).take (Try.prog.cellsOf 9)) = xs[3]? := hf 3 _ rfl
          have f4 : DataW.trod enc Try.prog w base spare held n' 22 ((List.drop 4 [c0, c1, c2, c3, c4]).take (Try.prog.cellsOf 22)) = xs[4]? := hf 4 _ rfl
          rw [C3, List.getElem?_eq_getElem (by rw [hxl]; decide)] at f0
          rw [C9, List.getElem?_eq_getElem (by rw [hxl]; decide)] at f1
          rw [CA, List.getElem?_eq_getElem (by rw [hxl]; decide)] at f2
          rw [C9, List.getElem?_eq_getElem (by rw [hxl]; decide)] at f3
          rw [CN, List.getElem?_eq_getElem (by rw [hxl]; decide)] at f4
          obtain ⟨k0, e0, _, z0⟩ := DataW.trod_int Try.underlying3 f0
          obtain ⟨s1, e1, _, z1⟩ := DataW.trod_string Try.underlying9 f1
          obtain ⟨s3, e3, _, z3⟩ := DataW.trod_string Try.underlying9 f3
          obtain ⟨la, ha1, ha2, ha3⟩ := open_attrs (v := c2) f2
          obtain ⟨lk, hk1, hk2⟩ := ih n' c4 _ (by omega) f4
          simp at e0 e1 e3
          subst e0
          subst e1
          subst e3
          refine ⟨⟨.mk k0 s1 la s3 lk, c2, c4⟩, fun k u hk => ?_, ha1, hk1, ⟨z1, z3, ha2, ha3⟩, hk2⟩
          have hk5 : k < 5 := (List.getElem?_eq_some_iff.1 hk).1
          rw [hat k hk5]
          exact hk
      obtain ⟨R, hR, hp⟩ := list_of len key
      exact ⟨R.map Rn.n, nodes_close hR hl hm hp⟩

end

end Go.Proofs.Ytialfafjoemppaa
