/- Nodes' text: plain facts. -/
import Derived.Test.YtenjhfkdbmljnaaTreeM
import Derived.Test.YtenjhfkdbmljnaaNamM
import Derived.Test.YtenjhfkdbmljnaaRefM
namespace Go.Proofs.Ytenjhfkdbmljnaa
set_option linter.unusedVariables false

/-- An attribute's text. -/
def attT (a : ByteArray × ByteArray) : List UInt8 := 32 :: (a.1.data.toList ++ (61 :: 34 :: (escB true a.2.data.toList ++ [34])))
/-- What stands ahead of an element's kids, and behind them. -/
def openT (n : Nd) : List UInt8 := 60 :: (n.name.data.toList ++ (n.attrs.flatMap attT ++ [62]))
def closeT (n : Nd) : List UInt8 := 60 :: 47 :: (n.name.data.toList ++ [62])
/-- What is told ahead of, and behind, any node's kids. -/
def openE (n : Nd) : List UInt8 := if n.kind = 1 then openT n else []
def closeE (n : Nd) : List UInt8 := if n.kind = 1 ∧ voidB n.name.data.toList = false then closeT n else []
mutual
/-- A node's text; raw: it stands in a raw element. -/
def txtN (raw : Bool) : Nd → List UInt8
  | .mk k nm a t ks =>
    if k = 3 then 60 :: 33 :: 45 :: 45 :: (t.data.toList ++ [45, 45, 62])
    else if k = 2 then (if raw = true then t.data.toList else escB false t.data.toList)
    else if k = 1 then
      (if voidB nm.data.toList = true then openT (.mk k nm a t ks) else openT (.mk k nm a t ks) ++ (txtL (rawB nm.data.toList) ks ++ closeT (.mk k nm a t ks)))
    else []
/-- Nodes' text. -/
def txtL (raw : Bool) : List Nd → List UInt8
  | [] => []
  | n :: l => txtN raw n ++ txtL raw l
end
theorem txtN_eq (raw : Bool) (n : Nd) : txtN raw n =
    if n.kind = 3 then 60 :: 33 :: 45 :: 45 :: (n.text.data.toList ++ [45, 45, 62])
    else if n.kind = 2 then (if raw = true then n.text.data.toList else escB false n.text.data.toList)
    else if n.kind = 1 then (if voidB n.name.data.toList = true then openT n else openT n ++ (txtL (rawB n.name.data.toList) n.kids ++ closeT n))
    else [] := by
  cases n
  simp only [txtN, Nd.kind, Nd.name, Nd.text, Nd.kids]
  rfl
theorem txtL_nil (raw : Bool) : txtL raw [] = [] := by simp [txtL]
theorem txtL_cons (raw : Bool) (n : Nd) (l : List Nd) : txtL raw (n :: l) = txtN raw n ++ txtL raw l := by simp [txtL]
theorem txtL_append (raw : Bool) : ∀ (a b : List Nd), txtL raw (a ++ b) = txtL raw a ++ txtL raw b
  | [], b => by simp [txtL_nil]
  | x :: a, b => by rw [List.cons_append, txtL_cons, txtL_cons, txtL_append raw a b, List.append_assoc]
theorem txtL_take {raw : Bool} {l : List Nd} {k : Nat} {n : Nd} (h : l[k]? = some n) : txtL raw (l.take (k + 1)) = txtL raw (l.take k) ++ txtN raw n := by
  rw [List.take_add_one, h, txtL_append]
  simp [txtL_cons, txtL_nil]

theorem attT_len (a : ByteArray × ByteArray) : (attT a).length ≤ 6 * (10 + a.1.size + a.2.size) := by
  have h := (escB_len true a.2.data.toList).2
  have h1 : a.1.data.toList.length = a.1.size := by simp
  have h2 : a.2.data.toList.length = a.2.size := by simp
  unfold attT
  simp only [List.length_cons, List.length_append, List.length_nil]
  omega
theorem atts_len : ∀ l : List (ByteArray × ByteArray), (l.flatMap attT).length ≤ 6 * szA l
  | [] => by simp
  | a :: l => by
    have h1 := attT_len a
    have h2 := atts_len l
    rw [List.flatMap_cons, List.length_append, szA]
    omega
theorem openT_len (n : Nd) : (openT n).length ≤ 6 * (n.name.size + szA n.attrs) + 2 := by
  have h1 := atts_len n.attrs
  have h2 : n.name.data.toList.length = n.name.size := by simp
  unfold openT
  simp only [List.length_cons, List.length_append, List.length_nil]
  omega
theorem closeT_len (n : Nd) : (closeT n).length = n.name.size + 3 := by
  have h2 : n.name.data.toList.length = n.name.size := by simp
  unfold closeT
  simp only [List.length_cons, List.length_append, List.length_nil]
  omega

/-- A list's text is bounded by the list's size. -/
theorem txt_len : ∀ l : List Nd, ∀ raw, (txtL raw l).length ≤ 7 * szL l := by
  intro l
  induction l using nd_ind with
  | h l ih =>
    intro raw
    have key : ∀ m : List Nd, (∀ x ∈ m, ∀ r, (txtL r x.kids).length ≤ 7 * szL x.kids) → (txtL raw m).length ≤ 7 * szL m := by
      intro m
      induction m with
      | nil => intro _; simp [txtL_nil]
      | cons x m ihm =>
        intro h
        have h1 := ihm fun y hy => h y (by simp [hy])
        have h2 := h x (by simp) (rawB x.name.data.toList)
        have h3 := szN_eq x
        have h4 := openT_len x
        have h5 := closeT_len x
        have h6 := (escB_len false x.text.data.toList).2
        have h7 : x.text.data.toList.length = x.text.size := by simp
        have h8 : (txtN raw x).length ≤ 7 * szN x := by
          rw [txtN_eq]
          split
          · simp only [List.length_cons, List.length_append, List.length_nil]; omega
          · split
            · split <;> omega
            · split
              · split
                · omega
                · simp only [List.length_append]; omega
              · simp
        rw [txtL_cons, szL_cons, List.length_append]
        omega
    exact key l fun x hx => by
      obtain ⟨i, hi, he⟩ := List.mem_iff_getElem.1 hx
      exact ih i x (by rw [List.getElem?_eq_getElem hi, he])

/-! ### all texts -/
mutual
def plainN : Nd → List UInt8
  | .mk k _ _ t ks => (if k = 2 then t.data.toList else []) ++ plainL ks
def plainL : List Nd → List UInt8
  | [] => []
  | n :: l => plainN n ++ plainL l
end
theorem plainN_eq (n : Nd) : plainN n = (if n.kind = 2 then n.text.data.toList else []) ++ plainL n.kids := by
  cases n
  simp only [plainN, Nd.kind, Nd.text, Nd.kids]
  rfl
theorem plainL_nil : plainL [] = [] := by simp [plainL]
theorem plainL_cons (n : Nd) (l : List Nd) : plainL (n :: l) = plainN n ++ plainL l := by simp [plainL]
theorem plainL_append : ∀ (a b : List Nd), plainL (a ++ b) = plainL a ++ plainL b
  | [], b => by simp [plainL_nil]
  | x :: a, b => by rw [List.cons_append, plainL_cons, plainL_cons, plainL_append a b, List.append_assoc]
theorem plainL_take {l : List Nd} {k : Nat} {n : Nd} (h : l[k]? = some n) : plainL (l.take (k + 1)) = plainL (l.take k) ++ plainN n := by
  rw [List.take_add_one, h, plainL_append]
  simp [plainL_cons, plainL_nil]
theorem plain_len : ∀ l : List Nd, (plainL l).length ≤ szL l := by
  intro l
  induction l using nd_ind with
  | h l ih =>
    have key : ∀ m : List Nd, (∀ x ∈ m, (plainL x.kids).length ≤ szL x.kids) → (plainL m).length ≤ szL m := by
      intro m
      induction m with
      | nil => intro _; simp [plainL_nil]
      | cons x m ihm =>
        intro h
        have h1 := ihm fun y hy => h y (by simp [hy])
        have h2 := h x (by simp)
        have h3 := szN_eq x
        have h7 : x.text.data.toList.length = x.text.size := by simp
        have h8 : (plainN x).length ≤ szN x := by
          rw [plainN_eq, List.length_append]
          split
          · omega
          · simp; omega
        rw [plainL_cons, szL_cons, List.length_append]
        omega
    exact key l fun x hx => by
      obtain ⟨i, hi, he⟩ := List.mem_iff_getElem.1 hx
      exact ih i x (by rw [List.getElem?_eq_getElem hi, he])

end Go.Proofs.Ytenjhfkdbmljnaa
