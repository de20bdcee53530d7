/- Nodes that may be: plain facts. -/
import Derived.Test.YtenjhfkdbmljnaaTreeM
import Derived.Test.YtenjhfkdbmljnaaNamM
namespace Go.Proofs.Ytenjhfkdbmljnaa
set_option linter.unusedVariables false

/-- Attributes may be: names that are such, unlike one another, right values. -/
def attrsOK (l : List (ByteArray × ByteArray)) : Prop := (∀ a ∈ l, attrB a.1.data.toList = true ∧ isB a.2.data.toList = true) ∧ l.Pairwise (fun a b => a.1 ≠ b.1)
/-- A node may be, but for its kids and what stands beside it. -/
def nodeOK (n : Nd) : Prop :=
  (n.kind = 1 ∧ namedB n.name.data.toList = true ∧ n.text.data.toList = [] ∧ attrsOK n.attrs) ∨
  ((n.kind = 2 ∨ n.kind = 3) ∧ n.name.data.toList = [] ∧ n.attrs = [] ∧ n.kids = [] ∧ isB n.text.data.toList = true)
/-- No text is empty, and no two stand side by side; b: does a text stand ahead? -/
def sides : Bool → List Nd → Prop
  | _, [] => True
  | b, n :: l => (n.kind = 2 → n.text.data.toList ≠ [] ∧ b = false) ∧ sides (n.kind == 2) l
/-- Nodes may be. -/
inductive GoodL : List Nd → Prop
  | mk (l : List Nd) (h : ∀ n ∈ l, nodeOK n) (hs : sides false l) (hk : ∀ n ∈ l, GoodL n.kids) : GoodL l

theorem GoodL.nodes {l : List Nd} (h : GoodL l) : ∀ n ∈ l, nodeOK n := by cases h; assumption
theorem GoodL.sides_ {l : List Nd} (h : GoodL l) : sides false l := by cases h; assumption
theorem GoodL.kids {l : List Nd} (h : GoodL l) : ∀ n ∈ l, GoodL n.kids := by cases h; assumption
theorem GoodL.nil : GoodL [] := .mk [] (by simp) trivial (by simp)

theorem sides_snoc : ∀ (l : List Nd) (b : Bool) (n : Nd), sides b (l ++ [n]) ↔ sides b l ∧ (n.kind = 2 → n.text.data.toList ≠ [] ∧ (if l = [] then b else lastText l) = false)
  | [], b, n => by simp [sides]
  | x :: l, b, n => by
    rw [List.cons_append]
    simp only [sides]
    rw [sides_snoc l (x.kind == 2) n, and_assoc]
    have e : (if l = [] then (x.kind == 2) else lastText l) = lastText (x :: l) := by
      by_cases h : l = []
      · subst h; rw [if_pos rfl]; rfl
      · rw [if_neg h]
        obtain ⟨m, y, rfl⟩ := snoc_of (List.length_pos_iff.2 h)
        rw [lastText_snoc, ← List.cons_append, lastText_snoc]
    rw [e, if_neg (by simp)]

/-- Nodes that may be but for texts side by side, and empty ones. -/
def preOK (l : List Nd) : Prop := (∀ n ∈ l, nodeOK n) ∧ ∀ n ∈ l, GoodL n.kids

theorem right_app {a b : ByteArray} (ha : isB a.data.toList = true) (hb : isB b.data.toList = true) : isB (a ++ b).data.toList = true := by
  rw [ByteArray.data_append, Array.toList_append, ← right_of_isB ha, ← right_of_isB hb]
  exact isB_join _ _

theorem nodeOK_text {n : Nd} (h : nodeOK n) (hk : n.kind = 2) : n.name.data.toList = [] ∧ n.attrs = [] ∧ n.kids = [] ∧ isB n.text.data.toList = true := by
  rcases h with h | h
  · have := h.1; omega
  · exact ⟨h.2.1, h.2.2.1, h.2.2.2.1, h.2.2.2.2⟩

theorem mstep_good {out : List Nd} {n : Nd} (ho : GoodL out) (hn : nodeOK n) (hk : GoodL n.kids) : GoodL (mstep out n) := by
  unfold mstep
  split
  · exact ho
  · rename_i h1
    split
    · rename_i h2
      obtain ⟨hk2, hl⟩ := h2
      have hne : 0 < out.length := by
        rcases Nat.eq_zero_or_pos out.length with h0 | h0
        · have : out = [] := List.eq_nil_of_length_eq_zero h0
          subst this
          simp [lastText] at hl
        · exact h0
      obtain ⟨m, x, rfl⟩ := snoc_of hne
      rw [lastText_snoc] at hl
      have hx2 : x.kind = 2 := by simpa using hl
      have hx := nodeOK_text (ho.nodes x (by simp)) hx2
      have hn2 := nodeOK_text hn hk2
      have hs := ho.sides_
      rw [sides_snoc] at hs
      rw [mglue_snoc]
      refine .mk _ ?_ ?_ ?_
      · intro y hy
        rcases List.mem_append.1 hy with hy | hy
        · exact ho.nodes y (by simp [hy])
        · simp at hy
          subst hy
          exact .inr ⟨.inl hx2, hx.1, hx.2.1, hx.2.2.1, right_app hx.2.2.2 hn2.2.2.2⟩
      · rw [sides_snoc]
        refine ⟨hs.1, fun _ => ⟨?_, (hs.2 hx2).2⟩⟩
        have := (hs.2 hx2).1
        show (x.text ++ n.text).data.toList ≠ []
        rw [ByteArray.data_append, Array.toList_append]
        intro e
        exact this (List.append_eq_nil_iff.1 e).1
      · intro y hy
        rcases List.mem_append.1 hy with hy | hy
        · exact ho.kids y (by simp [hy])
        · simp at hy
          subst hy
          exact ho.kids x (by simp)
    · rename_i h2
      refine .mk _ ?_ ?_ ?_
      · intro y hy
        rcases List.mem_append.1 hy with hy | hy
        · exact ho.nodes y hy
        · simp at hy
          subst hy
          exact hn
      · rw [sides_snoc]
        refine ⟨ho.sides_, fun h => ⟨fun e => h1 ⟨h, e⟩, ?_⟩⟩
        split
        · rfl
        · cases hl : lastText out with
          | false => rfl
          | true => exact absurd ⟨h, hl⟩ h2
      · intro y hy
        rcases List.mem_append.1 hy with hy | hy
        · exact ho.kids y hy
        · simp at hy
          subst hy
          exact hk

theorem merge_good {l : List Nd} (h : preOK l) : GoodL (mergeB l) := by
  unfold mergeB
  have key : ∀ (l : List Nd) (out : List Nd), preOK l → GoodL out → GoodL (l.foldl mstep out) := by
    intro l
    induction l with
    | nil => intro out _ ho; exact ho
    | cons n l ih =>
      intro out hp ho
      rw [List.foldl_cons]
      exact ih _ ⟨fun x hx => hp.1 x (by simp [hx]), fun x hx => hp.2 x (by simp [hx])⟩ (mstep_good ho (hp.1 n (by simp)) (hp.2 n (by simp)))
  exact key l [] h GoodL.nil

end Go.Proofs.Ytenjhfkdbmljnaa
