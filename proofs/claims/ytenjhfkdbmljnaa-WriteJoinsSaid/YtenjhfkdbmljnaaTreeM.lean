/- Nodes as trees: plain facts. No program in it. -/
import Derived.Test.YtenjhfkdbmljnaaMathU
namespace Go.Proofs.Ytenjhfkdbmljnaa
set_option linter.unusedVariables false

/-- A node: its kind, name, attributes, text, kids. -/
inductive Nd where
  | mk (kind : Int) (name : ByteArray) (attrs : List (ByteArray × ByteArray)) (text : ByteArray) (kids : List Nd)

def Nd.kind : Nd → Int | .mk k _ _ _ _ => k
def Nd.name : Nd → ByteArray | .mk _ n _ _ _ => n
def Nd.attrs : Nd → List (ByteArray × ByteArray) | .mk _ _ a _ _ => a
def Nd.text : Nd → ByteArray | .mk _ _ _ t _ => t
def Nd.kids : Nd → List Nd | .mk _ _ _ _ k => k
theorem Nd.eta (n : Nd) : Nd.mk n.kind n.name n.attrs n.text n.kids = n := by cases n; rfl

/-! ### sizes -/
/-- How much attributes take: 10 for each, and their bytes. -/
def szA : List (ByteArray × ByteArray) → Nat
  | [] => 0
  | a :: l => 10 + a.1.size + a.2.size + szA l
mutual
/-- How much a node takes: 10, its bytes, its attributes, its kids. -/
def szN : Nd → Nat
  | .mk _ n a t k => 10 + n.size + t.size + szA a + szL k
def szL : List Nd → Nat
  | [] => 0
  | n :: l => szN n + szL l
end

theorem szN_eq (n : Nd) : szN n = 10 + n.name.size + n.text.size + szA n.attrs + szL n.kids := by cases n; simp [szN, Nd.name, Nd.text, Nd.attrs, Nd.kids]
theorem szL_cons (n : Nd) (l : List Nd) : szL (n :: l) = szN n + szL l := by simp [szL]
theorem szL_nil : szL [] = 0 := by simp [szL]
theorem szL_append : ∀ (a b : List Nd), szL (a ++ b) = szL a + szL b
  | [], b => by simp [szL]
  | x :: a, b => by rw [List.cons_append, szL_cons, szL_cons, szL_append a b]; omega
theorem szA_append : ∀ (a b : List (ByteArray × ByteArray)), szA (a ++ b) = szA a + szA b
  | [], b => by simp [szA]
  | x :: a, b => by rw [List.cons_append, szA, szA, szA_append a b]; omega
theorem szL_at : ∀ {l : List Nd} {j : Nat} {n : Nd}, l[j]? = some n → szN n ≤ szL l
  | [], j, n, h => by simp at h
  | x :: l, 0, n, h => by
    simp at h
    subst h
    rw [szL_cons]
    omega
  | x :: l, j + 1, n, h => by
    have := szL_at (l := l) (j := j) (n := n) (by simpa using h)
    rw [szL_cons]
    omega
theorem szL_kids {l : List Nd} {j : Nat} {n : Nd} (h : l[j]? = some n) : szL n.kids < szL l := by
  have := szL_at h
  rw [szN_eq] at this
  omega
theorem szL_len : ∀ l : List Nd, 10 * l.length ≤ szL l
  | [] => by simp [szL]
  | n :: l => by
    have := szL_len l
    rw [szL_cons, szN_eq, List.length_cons]
    omega
theorem szA_len : ∀ l : List (ByteArray × ByteArray), 10 * l.length ≤ szA l
  | [] => by simp [szA]
  | n :: l => by
    have := szA_len l
    rw [szA, List.length_cons]
    omega
theorem szA_at : ∀ {l : List (ByteArray × ByteArray)} {j : Nat} {x : ByteArray × ByteArray}, l[j]? = some x → x.1.size + x.2.size + 10 ≤ szA l
  | [], j, x, h => by simp at h
  | y :: l, 0, x, h => by
    simp at h
    subst h
    rw [szA]
    omega
  | y :: l, j + 1, x, h => by
    have := szA_at (l := l) (j := j) (x := x) (by simpa using h)
    rw [szA]
    omega

/-- Induction over nodes: all kids' lists come ahead. -/
theorem nd_ind {P : List Nd → Prop} (h : ∀ l : List Nd, (∀ (j : Nat) (n : Nd), l[j]? = some n → P n.kids) → P l) : ∀ l, P l := by
  have key : ∀ (k : Nat) (l : List Nd), szL l ≤ k → P l := by
    intro k
    induction k with
    | zero =>
      intro l hl
      refine h l fun j n hj => ?_
      have := szL_kids hj
      omega
    | succ k ih =>
      intro l hl
      refine h l fun j n hj => ih _ ?_
      have := szL_kids hj
      omega
  exact fun l => key _ l (Nat.le_refl _)

/-! ### merged -/
/-- A text behind a list's last node is one with it, if that is a text. -/
def mglue (l : List Nd) (x : ByteArray) : List Nd :=
  match l.getLast? with
  | some n => l.dropLast ++ [.mk n.kind n.name n.attrs (n.text ++ x) n.kids]
  | none => []
def lastText (l : List Nd) : Bool := match l.getLast? with | some n => n.kind == 2 | none => false
def mstep (out : List Nd) (n : Nd) : List Nd :=
  if n.kind = 2 ∧ n.text.data.toList = [] then out else if n.kind = 2 ∧ lastText out = true then mglue out n.text else out ++ [n]
def mergeB (l : List Nd) : List Nd := l.foldl mstep []

theorem mglue_snoc (l : List Nd) (n : Nd) (x : ByteArray) : mglue (l ++ [n]) x = l ++ [.mk n.kind n.name n.attrs (n.text ++ x) n.kids] := by simp [mglue]
theorem lastText_snoc (l : List Nd) (n : Nd) : lastText (l ++ [n]) = (n.kind == 2) := by simp [lastText]
theorem snoc_of {α : Type} {l : List α} (h : 0 < l.length) : ∃ m x, l = m ++ [x] := by
  rcases List.eq_nil_or_concat l with rfl | ⟨m, x, hx⟩
  · simp at h
  · exact ⟨m, x, by rw [hx]; simp⟩

theorem szN_mk (k : Int) (n : ByteArray) (a : List (ByteArray × ByteArray)) (t : ByteArray) (ks : List Nd) : szN (.mk k n a t ks) = 10 + n.size + t.size + szA a + szL ks := by simp [szN]

theorem mstep_sz (out : List Nd) (n : Nd) : szL (mstep out n) ≤ szL out + szN n := by
  unfold mstep
  split
  · omega
  · split
    · rename_i h
      rcases Nat.eq_zero_or_pos out.length with h0 | h0
      · have : out = [] := List.eq_nil_of_length_eq_zero h0
        subst this
        simp [lastText] at h
      · obtain ⟨m, x, rfl⟩ := snoc_of h0
        have e1 := szN_eq x
        have e2 := szN_eq n
        rw [mglue_snoc, szL_append, szL_append, szL_cons, szL_cons, szL_nil, szN_mk, ByteArray.size_append]
        omega
    · rw [szL_append, szL_cons, szL_nil]
      omega
theorem merge_sz (l : List Nd) : szL (mergeB l) ≤ szL l := by
  unfold mergeB
  have key : ∀ (l : List Nd) (out : List Nd), szL (l.foldl mstep out) ≤ szL out + szL l := by
    intro l
    induction l with
    | nil => intro out; simp
    | cons n l ih =>
      intro out
      have := ih (mstep out n)
      have := mstep_sz out n
      rw [List.foldl_cons, szL_cons]
      omega
  have := key l []
  rw [szL_nil] at this
  omega

end Go.Proofs.Ytenjhfkdbmljnaa
