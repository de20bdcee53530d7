/- Texts that are right, plain nodes, lists that may be: plain facts. -/
import Derived.Test.YthiibcjahmokpaaMathV
import Derived.Test.YthiibcjahmokpaaTreeM
namespace Go.Proofs.Ythiibcjahmokpaa
set_option linter.unusedVariables false

/-- A text of characters that may be. -/
def okT (l : List UInt8) : Prop := ∃ L : List Int, (∀ r ∈ L, okN r) ∧ l = enc L
theorem okT_right (l : List UInt8) : okT (right l) := ⟨_, norm_ok (runes l) 0 (runes_ok _ l (Nat.le_refl _)), rfl⟩
theorem okT_append {a b : List UInt8} (ha : okT a) (hb : okT b) : okT (a ++ b) := by
  obtain ⟨A, hA, rfl⟩ := ha
  obtain ⟨B, hB, rfl⟩ := hb
  refine ⟨A ++ B, fun r hr => ?_, (enc_append _ _).symm⟩
  rcases List.mem_append.1 hr with h | h
  · exact hA r h
  · exact hB r h
theorem okT_is {l : List UInt8} (h : okT l) : isB l = true := by
  obtain ⟨L, hL, rfl⟩ := h
  exact isB_enc L hL
theorem okT_nil : okT [] := ⟨[], by simp, rfl⟩
theorem okT_one {c : Int} (h : okN c) {l : List UInt8} (hl : enc [c] = l) : okT l := ⟨[c], by simpa using h, hl.symm⟩
theorem okT_c : okT [99] := okT_one (c := 99) (by unfold okN okR; omega) (by decide)
theorem okT_x : okT [120] := okT_one (c := 120) (by unfold okN okR; omega) (by decide)

/-- A node that is a text or a comment, with nothing else. -/
def pn (k : Int) (t : ByteArray) : Nd := .mk k ⟨#[]⟩ [] t []
structure PN (n : Nd) : Prop where
  eq : n = pn n.kind n.text
  kind : n.kind = 2 ∨ n.kind = 3
  ok : okT n.text.data.toList
theorem PN.mk' {k : Int} {t : ByteArray} (hk : k = 2 ∨ k = 3) (ht : okT t.data.toList) : PN (pn k t) := ⟨rfl, hk, ht⟩
theorem PN.kids {n : Nd} (h : PN n) : n.kids = [] := by rw [h.eq]; rfl
theorem PN.attrs {n : Nd} (h : PN n) : n.attrs = [] := by rw [h.eq]; rfl
theorem PN.name {n : Nd} (h : PN n) : n.name = ⟨#[]⟩ := by rw [h.eq]; rfl

/-- What stands right ahead of a place is a text. -/
def behind (l : List Nd) : Nat → Bool
  | 0 => false
  | i + 1 => match l[i]? with | some n => n.kind == 2 | none => false

/-- Plain nodes that may be: no empty text, no two side by side. -/
def DomOK (l : List Nd) : Prop := ∀ (i : Nat) (n : Nd), l[i]? = some n → PN n ∧ (n.kind = 2 → n.text.data.toList ≠ [] ∧ behind l i = false)

theorem DomOK.nil : DomOK [] := fun i n h => by simp at h
theorem behind_append (l m : List Nd) (i : Nat) (h : i ≤ l.length) : behind (l ++ m) i = behind l i := by
  cases i with
  | zero => rfl
  | succ i =>
    show (match (l ++ m)[i]? with | some n => n.kind == 2 | none => false) = (match l[i]? with | some n => n.kind == 2 | none => false)
    rw [List.getElem?_append_left (show i < l.length by omega)]
theorem behind_end (l : List Nd) : behind l l.length = lastText l := by
  rcases List.eq_nil_or_concat l with rfl | ⟨m, x, hx⟩
  · rfl
  · subst hx
    rw [List.concat_eq_append, lastText_snoc, List.length_append, List.length_singleton]
    show (match (m ++ [x])[m.length]? with | some n => n.kind == 2 | none => false) = _
    rw [List.getElem?_append_right (Nat.le_refl _)]
    simp
theorem DomOK.snoc {l : List Nd} {n : Nd} (h : DomOK l) (hn : PN n) (h2 : n.kind = 2 → n.text.data.toList ≠ [] ∧ lastText l = false) : DomOK (l ++ [n]) := by
  intro i x hx
  by_cases hi : i < l.length
  · rw [List.getElem?_append_left hi] at hx
    rw [behind_append _ _ _ (by omega)]
    exact h i x hx
  · have hlt := (List.getElem?_eq_some_iff.1 hx).1
    rw [List.length_append, List.length_singleton] at hlt
    have : i = l.length := by omega
    subst this
    simp at hx
    subst hx
    rw [behind_append _ _ _ (Nat.le_refl _), behind_end]
    exact ⟨hn, h2⟩

/-- The texts that a list begins with, put together: how many, what they tell. -/
def runT (l : List Nd) : List Nd := l.takeWhile fun n => n.kind == 2
def catT (l : List Nd) : List UInt8 := l.flatMap fun n => n.text.data.toList
theorem catT_snoc (l : List Nd) (n : Nd) : catT (l ++ [n]) = catT l ++ n.text.data.toList := by simp [catT]
theorem catT_len : ∀ l : List Nd, (catT l).length + 10 * l.length ≤ szL l
  | [] => by simp [catT, szL]
  | n :: l => by
    have h1 := catT_len l
    have h2 := szN_eq n
    have h3 : (catT (n :: l)).length = n.text.size + (catT l).length := by simp [catT]
    rw [h3, szL_cons, List.length_cons]
    omega
theorem catT_ok : ∀ l : List Nd, (∀ n ∈ l, okT n.text.data.toList) → okT (catT l)
  | [], _ => okT_nil
  | n :: l, h => by
    have e : catT (n :: l) = n.text.data.toList ++ catT l := by simp [catT]
    rw [e]
    exact okT_append (h n (by simp)) (catT_ok l fun x hx => h x (by simp [hx]))

end Go.Proofs.Ythiibcjahmokpaa
