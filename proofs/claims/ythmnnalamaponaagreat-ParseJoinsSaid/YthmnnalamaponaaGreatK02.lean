/- Parts of the proof, in build order: RefM TxtM MathA TokM. -/
import Derived.Test.YthmnnalamaponaaGreatK01
import Derived.Lib.Strings
import Derived.WalkKit

/- Part RefM. -/
namespace Go.Proofs.YthmnnalamaponaaGreat
set_option linter.unusedVariables false

/-! ### names -/
def updF (f : List UInt8 → Option Int) (k : List UInt8) (v : Int) : List UInt8 → Option Int := fun l => if l = k then some v else f l
/-- A name's character. -/
def nameB : List UInt8 → Option Int :=
  updF (updF (updF (updF (updF (updF (updF (updF (updF (updF (updF (updF (updF (updF (updF (fun _ => none)
    [97, 109, 112] 38) [108, 116] 60) [103, 116] 62) [113, 117, 111, 116] 34) [97, 112, 111, 115] 39) [110, 98, 115, 112] 160) [99, 111, 112, 121] 169) [114, 101, 103] 174)
    [100, 101, 103] 176) [109, 105, 100, 100, 111, 116] 183) [116, 105, 109, 101, 115] 215) [110, 100, 97, 115, 104] 8211) [109, 100, 97, 115, 104] 8212) [104, 101, 108, 108, 105, 112] 8230) [101, 117, 114, 111] 8364

theorem updF_cases {f : List UInt8 → Option Int} {k : List UInt8} {v : Int} {P : List UInt8 → Int → Prop} (h0 : P k v) (h : ∀ l r, f l = some r → P l r) : ∀ l r, updF f k v l = some r → P l r := by
  intro l r hr
  unfold updF at hr
  split at hr
  · rename_i e; subst e; cases hr; exact h0
  · exact h l r hr

def okNB (r : Int) : Bool := decide ((0 ≤ r ∧ r < 55296) ∨ (57343 < r ∧ r ≤ 1114111)) && decide (r ≠ 0) && decide (r ≠ 13)
theorem okN_of {r : Int} (h : okNB r = true) : okN r := by
  unfold okNB at h
  simp at h
  unfold okN okR
  omega

theorem name_fact (l : List UInt8) (r : Int) (h : nameB l = some r) : 2 ≤ l.length ∧ l.length ≤ 6 ∧ okNB r = true := by
  revert l r
  unfold nameB
  iterate 15 refine updF_cases (P := fun l r => 2 ≤ l.length ∧ l.length ≤ 6 ∧ okNB r = true) (by decide) ?_
  intro l r h
  cases h

/-- Is a byte a small letter? -/
def isLow (c : UInt8) : Bool := decide (97 ≤ c.toNat) && decide (c.toNat ≤ 122)
/-- How many small letters bytes begin with. -/
def lowN (l : List UInt8) : Nat := (l.takeWhile isLow).length

theorem lowN_le (l : List UInt8) : lowN l ≤ l.length := by
  unfold lowN
  exact (List.takeWhile_sublist _).length_le
theorem lowN_take (l : List UInt8) : l.take (lowN l) = l.takeWhile isLow := by
  unfold lowN
  induction l with
  | nil => rfl
  | cons c t ih =>
    rw [List.takeWhile_cons]
    split
    · simp [ih]
    · simp

/-! ### numbers -/
/-- What a digit counts; -1, if it is none. -/
def digR (r : Int) : Int := if 48 ≤ r ∧ r ≤ 57 then r - 48 else if 97 ≤ r ∧ r ≤ 102 then r - 97 + 10 else if 65 ≤ r ∧ r ≤ 70 then r - 65 + 10 else -1
/-- The number of at most m digits with which bytes begin, from a on, and how many these are. -/
def digF : Nat → Int → Int → List UInt8 → Int × Nat
  | 0, _, a, _ => (a, 0)
  | _ + 1, _, a, [] => (a, 0)
  | m + 1, b, a, c :: t => if digR c.toNat < 0 ∨ b ≤ digR c.toNat then (a, 0) else ((digF m b (a * b + digR c.toNat) t).1, (digF m b (a * b + digR c.toNat) t).2 + 1)
/-- What a number stands for. -/
def charB (x : Int) : Int := if x = 0 ∨ x = 13 ∨ ¬ ((0 ≤ x ∧ x < 55296) ∨ (57343 < x ∧ x ≤ 1114111)) then 65533 else x
def numB (l : List UInt8) (k : Nat) (b : Int) (m : Nat) : Int × Nat := if (digF m b 0 (l.drop k)).2 = 0 then (0, 0) else (charB (digF m b 0 (l.drop k)).1, k + (digF m b 0 (l.drop k)).2)
/-- What the number or the name with which bytes begin stands for, and how many bytes it has. -/
def toldB (l : List UInt8) : Int × Nat :=
  if Lib.hasPrefix l [35, 120] = true then numB l 2 16 6
  else if Lib.hasPrefix l [35, 88] = true then numB l 2 16 6
  else if Lib.hasPrefix l [35] = true then numB l 1 10 7
  else match nameB (l.take (lowN l)) with
    | some r => (r, lowN l)
    | none => (0, 0)
/-- What the reference with which bytes begin stands for, and how many bytes it has. -/
def oneB (l : List UInt8) : Int × Nat :=
  if Lib.hasPrefix l [38] = true then
    if (toldB (l.drop 1)).2 = 0 then (0, 0)
    else if Lib.hasPrefix (l.drop (1 + (toldB (l.drop 1)).2)) [59] = true then ((toldB (l.drop 1)).1, (toldB (l.drop 1)).2 + 2) else (0, 0)
  else (0, 0)

theorem charB_ok (x : Int) : okN (charB x) := by
  unfold charB okN okR
  split <;> omega

theorem digR_bd (r : Int) : -1 ≤ digR r ∧ digR r ≤ 15 := by
  unfold digR
  repeat' split
  all_goals omega

theorem digF_len : ∀ (m : Nat) (b a : Int) (l : List UInt8), (digF m b a l).2 ≤ l.length ∧ (digF m b a l).2 ≤ m
  | 0, b, a, l => by simp [digF]
  | m + 1, b, a, [] => by simp [digF]
  | m + 1, b, a, c :: t => by
    unfold digF
    split
    · simp
    · have := digF_len m b (a * b + digR c.toNat) t
      simp only [List.length_cons]
      omega

/-- Small: bytes below 128, at the beginning. -/
def asc (l : List UInt8) (n : Nat) : Prop := ∀ j, j < n → byt l j < 128

theorem asc_cons {c : UInt8} {t : List UInt8} {n : Nat} (hc : c.toNat < 128) (h : asc t n) : asc (c :: t) (n + 1) := by
  intro j hj
  match j with
  | 0 => exact hc
  | j + 1 => exact h j (by omega)

theorem asc_zero (l : List UInt8) : asc l 0 := fun j hj => absurd hj (by omega)

theorem digR_asc {c : UInt8} (h : ¬ digR c.toNat < 0) : c.toNat < 128 := by
  unfold digR at h
  have := c.toNat_lt
  repeat' split at h
  all_goals omega

theorem digF_asc : ∀ (m : Nat) (b a : Int) (l : List UInt8), asc l (digF m b a l).2
  | 0, b, a, l => asc_zero l
  | m + 1, b, a, [] => asc_zero []
  | m + 1, b, a, c :: t => by
    unfold digF
    split
    · exact asc_zero _
    · exact asc_cons (digR_asc (by omega)) (digF_asc m b _ t)

theorem asc_drop {l : List UInt8} {k n : Nat} (h : asc (l.drop k) n) (h0 : asc l k) : asc l (k + n) := by
  intro j hj
  by_cases hk : j < k
  · exact h0 j hk
  · have := h (j - k) (by omega)
    unfold byt at this ⊢
    rw [List.getD_eq_getElem?_getD, List.getElem?_drop] at this
    rw [List.getD_eq_getElem?_getD]
    rw [show k + (j - k) = j by omega] at this
    exact this

theorem asc_low (l : List UInt8) : asc l (lowN l) := by
  unfold lowN
  induction l with
  | nil => exact asc_zero _
  | cons c t ih =>
    rw [List.takeWhile_cons]
    split
    · rename_i h
      unfold isLow at h
      simp at h
      exact asc_cons (by omega) ih
    · exact asc_zero _

theorem pre_one {l : List UInt8} {c : UInt8} (h : Lib.hasPrefix l [c] = true) : ∃ t, l = c :: t := by
  unfold Lib.hasPrefix at h
  cases l with
  | nil => simp [List.isPrefixOf] at h
  | cons x t => simp [List.isPrefixOf] at h; exact ⟨t, by rw [h]⟩
theorem pre_two {l : List UInt8} {c d : UInt8} (h : Lib.hasPrefix l [c, d] = true) : ∃ t, l = c :: d :: t := by
  unfold Lib.hasPrefix at h
  match l, h with
  | [], h => simp [List.isPrefixOf] at h
  | [x], h => simp [List.isPrefixOf] at h
  | x :: y :: t, h =>
    simp [List.isPrefixOf] at h
    exact ⟨t, by rw [h.1, h.2]⟩
theorem pre_cons (c : UInt8) (t : List UInt8) (d : UInt8) : Lib.hasPrefix (c :: t) [d] = decide (d = c) := by
  unfold Lib.hasPrefix
  simp only [List.isPrefixOf]
  by_cases h : d = c <;> simp [h]
theorem pre_nil (d : UInt8) : Lib.hasPrefix [] [d] = false := rfl

theorem numB_fact (l : List UInt8) (k : Nat) (b : Int) (m : Nat) (hk : k ≤ l.length) (h0 : asc l k) (h : (numB l k b m).2 ≠ 0) :
    okN (numB l k b m).1 ∧ k < (numB l k b m).2 ∧ (numB l k b m).2 ≤ k + m ∧ (numB l k b m).2 ≤ l.length ∧ asc l (numB l k b m).2 := by
  unfold numB at h ⊢
  split
  · rename_i e; rw [if_pos e] at h; exact absurd rfl h
  · rename_i e
    have hl := digF_len m b 0 (l.drop k)
    rw [List.length_drop] at hl
    exact ⟨charB_ok _, by simp only; omega, by simp only; omega, by simp only; omega, asc_drop (digF_asc m b 0 _) h0⟩

theorem told_fact (l : List UInt8) (h : (toldB l).2 ≠ 0) : okN (toldB l).1 ∧ 2 ≤ (toldB l).2 ∧ (toldB l).2 ≤ 8 ∧ (toldB l).2 ≤ l.length ∧ asc l (toldB l).2 := by
  unfold toldB at h ⊢
  split
  · rename_i e
    rw [if_pos e] at h
    obtain ⟨t, rfl⟩ := pre_two e
    have := numB_fact _ 2 16 6 (by simp) (asc_cons (by decide) (asc_cons (by decide) (asc_zero _))) h
    exact ⟨this.1, by omega, by omega, this.2.2.2.1, this.2.2.2.2⟩
  · rename_i e0
    rw [if_neg e0] at h
    split
    · rename_i e
      rw [if_pos e] at h
      obtain ⟨t, rfl⟩ := pre_two e
      have := numB_fact _ 2 16 6 (by simp) (asc_cons (by decide) (asc_cons (by decide) (asc_zero _))) h
      exact ⟨this.1, by omega, by omega, this.2.2.2.1, this.2.2.2.2⟩
    · rename_i e1
      rw [if_neg e1] at h
      split
      · rename_i e
        rw [if_pos e] at h
        obtain ⟨t, rfl⟩ := pre_one e
        have := numB_fact _ 1 10 7 (by simp) (asc_cons (by decide) (asc_zero _)) h
        exact ⟨this.1, by omega, by omega, this.2.2.2.1, this.2.2.2.2⟩
      · rename_i e2
        rw [if_neg e2] at h
        cases hn : nameB (l.take (lowN l)) with
        | none => rw [hn] at h; exact absurd rfl h
        | some r =>
          have hf := name_fact _ _ hn
          have hl := lowN_le l
          rw [List.length_take] at hf
          exact ⟨okN_of hf.2.2, by simp only; omega, by simp only; omega, hl, asc_low l⟩

theorem one_fact (l : List UInt8) (h : (oneB l).2 ≠ 0) : okN (oneB l).1 ∧ 4 ≤ (oneB l).2 ∧ (oneB l).2 ≤ 10 ∧ (oneB l).2 ≤ l.length ∧ asc l (oneB l).2 := by
  unfold oneB at h ⊢
  split
  · rename_i e
    rw [if_pos e] at h
    obtain ⟨t, rfl⟩ := pre_one e
    rw [List.drop_succ_cons, List.drop_zero] at h ⊢
    split
    · rename_i e1; rw [if_pos e1] at h; exact absurd rfl h
    · rename_i e1
      rw [if_neg e1] at h
      split
      · rename_i e2
        have hf := told_fact t e1
        obtain ⟨q, hq⟩ := pre_one e2
        have hlen := congrArg List.length hq
        rw [List.length_drop] at hlen
        simp only [List.length_cons] at hlen
        refine ⟨hf.1, by simp only; omega, by simp only; omega, by simp only [List.length_cons]; omega, ?_⟩
        have ha := asc_cons (c := 38) (by decide) hf.2.2.2.2
        have hb : asc (38 :: t) ((toldB t).2 + 1 + 1) := by
          refine asc_drop (n := 1) ?_ ha
          rw [Nat.add_comm] at hq
          rw [hq]
          exact asc_cons (by decide) (asc_zero _)
        exact hb
      · rename_i e2; rw [if_neg e2] at h; exact absurd rfl h
  · rename_i e; rw [if_neg e] at h; exact absurd rfl h

/-! ### decoded -/
def decF : Nat → List UInt8 → List UInt8
  | 0, _ => []
  | _ + 1, [] => []
  | f + 1, c :: t => if c = 38 then (if (oneB (c :: t)).2 = 0 then 38 :: decF f t else Lib.encodeRune (oneB (c :: t)).1 ++ decF f ((c :: t).drop (oneB (c :: t)).2)) else c :: decF f t
/-- Bytes with their references told. -/
def decB (l : List UInt8) : List UInt8 := decF l.length l

theorem decF_fuel : ∀ (f g : Nat) (l : List UInt8), l.length ≤ f → l.length ≤ g → decF f l = decF g l
  | 0, 0, l, _, _ => rfl
  | 0, g + 1, [], _, _ => rfl
  | 0, g + 1, c :: t, h, _ => by simp at h
  | f + 1, 0, [], _, _ => rfl
  | f + 1, 0, c :: t, _, h => by simp at h
  | f + 1, g + 1, [], _, _ => rfl
  | f + 1, g + 1, c :: t, hf, hg => by
    simp only [List.length_cons] at hf hg
    unfold decF
    rw [decF_fuel f g t (by omega) (by omega)]
    by_cases h1 : (oneB (c :: t)).2 = 0
    · rw [if_pos h1, if_pos h1]
    · rw [if_neg h1, if_neg h1, decF_fuel f g ((c :: t).drop (oneB (c :: t)).2) (by rw [List.length_drop, List.length_cons]; omega) (by rw [List.length_drop, List.length_cons]; omega)]

theorem decB_nil : decB [] = [] := rfl
theorem decB_cons (c : UInt8) (t : List UInt8) : decB (c :: t) = if c = 38 then (if (oneB (c :: t)).2 = 0 then 38 :: decB t else Lib.encodeRune (oneB (c :: t)).1 ++ decB ((c :: t).drop (oneB (c :: t)).2)) else c :: decB t := by
  unfold decB
  show decF (t.length + 1) (c :: t) = _
  conv => lhs; unfold decF
  by_cases h1 : (oneB (c :: t)).2 = 0
  · rw [if_pos h1, if_pos h1]
  · rw [if_neg h1, if_neg h1, decF_fuel t.length _ ((c :: t).drop (oneB (c :: t)).2) (by rw [List.length_drop, List.length_cons]; omega) (Nat.le_refl _)]

/-- Bytes without & stay. -/
theorem decB_skip : ∀ (p t : List UInt8), (∀ c ∈ p, c ≠ 38) → decB (p ++ t) = p ++ decB t
  | [], t, _ => rfl
  | c :: p, t, h => by
    rw [List.cons_append, decB_cons, if_neg (h c (by simp)), decB_skip p t (fun x hx => h x (by simp [hx]))]
    rfl
theorem decB_none {l : List UInt8} (h : ∀ c ∈ l, c ≠ 38) : decB l = l := by
  have := decB_skip l [] h
  simpa [decB_nil] using this
theorem decB_ref {t : List UInt8} (h : (oneB (38 :: t)).2 ≠ 0) : decB (38 :: t) = Lib.encodeRune (oneB (38 :: t)).1 ++ decB ((38 :: t).drop (oneB (38 :: t)).2) := by
  rw [decB_cons, if_pos rfl, if_neg h]
theorem decB_amp {t : List UInt8} (h : (oneB (38 :: t)).2 = 0) : decB (38 :: t) = 38 :: decB t := by
  rw [decB_cons, if_pos rfl, if_pos h]

theorem encodeRune_le (r : Int) : 1 ≤ (Lib.encodeRune r).length ∧ (Lib.encodeRune r).length ≤ 4 := by
  have := Lib.encodeRuneZ_length r
  simpa [Lib.encodeRune] using this

theorem decB_len : ∀ (n : Nat) (l : List UInt8), l.length ≤ n → (decB l).length ≤ l.length
  | 0, l, h => by
    have : l = [] := List.eq_nil_of_length_eq_zero (by omega)
    subst this
    simp [decB_nil]
  | n + 1, [], h => by simp [decB_nil]
  | n + 1, c :: t, h => by
    simp only [List.length_cons] at h
    rw [decB_cons]
    split
    · split
      · have := decB_len n t (by omega)
        simp only [List.length_cons]
        omega
      · rename_i h1
        have hf := one_fact _ h1
        have he := encodeRune_le (oneB (c :: t)).1
        have := decB_len n ((c :: t).drop (oneB (c :: t)).2) (by rw [List.length_drop, List.length_cons]; omega)
        rw [List.length_drop] at this
        simp only [List.length_append]
        omega
    · have := decB_len n t (by omega)
      simp only [List.length_cons]
      omega

/-! ### written -/
theorem take_snoc' {l : List UInt8} {k : Nat} {c : UInt8} (h : l[k]? = some c) : l.take (k + 1) = l.take k ++ [c] := by rw [List.take_add_one, h]; rfl

/-- What a byte is written as. -/
def wrB (v : Bool) (c : UInt8) : List UInt8 :=
  if c = 38 then [38, 97, 109, 112, 59] else if c = 60 then [38, 108, 116, 59] else if c = 62 then [38, 103, 116, 59] else if c = 34 ∧ v = true then [38, 113, 117, 111, 116, 59] else []
def wrC (v : Bool) (c : UInt8) : List UInt8 := if wrB v c = [] then [c] else wrB v c
/-- Bytes, written. -/
def escB (v : Bool) (l : List UInt8) : List UInt8 := l.flatMap (wrC v)

theorem wrC_same {v : Bool} {c : UInt8} (h : wrB v c = []) : wrC v c = [c] := by unfold wrC; rw [if_pos h]
theorem wrC_other {v : Bool} {c : UInt8} (h : wrB v c ≠ []) : wrC v c = wrB v c := by unfold wrC; rw [if_neg h]

theorem escB_nil (v : Bool) : escB v [] = [] := rfl
theorem escB_cons (v : Bool) (c : UInt8) (t : List UInt8) : escB v (c :: t) = wrC v c ++ escB v t := by simp [escB]
theorem escB_append (v : Bool) (a b : List UInt8) : escB v (a ++ b) = escB v a ++ escB v b := by simp [escB]

theorem wrB_len (v : Bool) (c : UInt8) : (wrB v c).length ≤ 6 := by
  unfold wrB
  repeat' split
  all_goals simp
theorem wrC_len (v : Bool) (c : UInt8) : 1 ≤ (wrC v c).length ∧ (wrC v c).length ≤ 6 := by
  have := wrB_len v c
  unfold wrC
  split
  · simp
  · rename_i h
    have : (wrB v c).length ≠ 0 := fun e => h (List.eq_nil_of_length_eq_zero e)
    omega
theorem escB_len (v : Bool) : ∀ l : List UInt8, l.length ≤ (escB v l).length ∧ (escB v l).length ≤ 6 * l.length
  | [] => by simp [escB_nil]
  | c :: t => by
    have := wrC_len v c
    have := escB_len v t
    rw [escB_cons, List.length_append, List.length_cons]
    omega

theorem one_amp (t : List UInt8) : oneB (38 :: 97 :: 109 :: 112 :: 59 :: t) = (38, 5) := rfl
theorem one_lt (t : List UInt8) : oneB (38 :: 108 :: 116 :: 59 :: t) = (60, 4) := rfl
theorem one_gt (t : List UInt8) : oneB (38 :: 103 :: 116 :: 59 :: t) = (62, 4) := rfl
theorem one_quot (t : List UInt8) : oneB (38 :: 113 :: 117 :: 111 :: 116 :: 59 :: t) = (34, 6) := rfl

theorem dec_wr (v : Bool) (c : UInt8) (t : List UInt8) : decB (wrC v c ++ t) = c :: decB t := by
  unfold wrC wrB
  by_cases h1 : c = 38
  · subst h1
    rw [if_pos rfl, if_neg (by simp)]
    show decB (38 :: 97 :: 109 :: 112 :: 59 :: t) = _
    rw [decB_ref (by rw [one_amp]; simp), one_amp]
    rfl
  rw [if_neg h1]
  by_cases h2 : c = 60
  · subst h2
    rw [if_pos rfl, if_neg (by simp)]
    show decB (38 :: 108 :: 116 :: 59 :: t) = _
    rw [decB_ref (by rw [one_lt]; simp), one_lt]
    rfl
  rw [if_neg h2]
  by_cases h3 : c = 62
  · subst h3
    rw [if_pos rfl, if_neg (by simp)]
    show decB (38 :: 103 :: 116 :: 59 :: t) = _
    rw [decB_ref (by rw [one_gt]; simp), one_gt]
    rfl
  rw [if_neg h3]
  by_cases h4 : c = 34 ∧ v = true
  · rw [if_pos h4]
    obtain ⟨rfl, rfl⟩ := h4
    rw [if_neg (by simp)]
    show decB (38 :: 113 :: 117 :: 111 :: 116 :: 59 :: t) = _
    rw [decB_ref (by rw [one_quot]; simp), one_quot]
    rfl
  rw [if_neg h4, if_pos rfl]
  show decB (c :: t) = _
  rw [decB_cons, if_neg h1]

theorem dec_esc (v : Bool) : ∀ l : List UInt8, decB (escB v l) = l
  | [] => rfl
  | c :: t => by rw [escB_cons, dec_wr, dec_esc v t]

/-- Of what is written no byte is <, >, or (in a value) a quote. -/
theorem wr_bare (x : UInt8) : ∀ c ∈ wrC true x, c ≠ 60 ∧ c ≠ 62 ∧ c ≠ 34 := by
  unfold wrC
  by_cases h1 : x = 38
  · subst h1; decide
  by_cases h2 : x = 60
  · subst h2; decide
  by_cases h3 : x = 62
  · subst h3; decide
  by_cases h4 : x = 34
  · subst h4; decide
  have e : wrB true x = [] := by
    unfold wrB
    rw [if_neg h1, if_neg h2, if_neg h3, if_neg (fun h => h4 h.1)]
  rw [if_pos e]
  intro c hc
  simp at hc
  subst hc
  exact ⟨h2, h3, h4⟩
theorem esc_bare (l : List UInt8) : ∀ c ∈ escB true l, c ≠ 60 ∧ c ≠ 62 ∧ c ≠ 34 := by
  intro c hc
  unfold escB at hc
  obtain ⟨x, _, hx⟩ := List.mem_flatMap.1 hc
  exact wr_bare x c hx

/-! ### right texts -/
theorem enc_one {r : Int} (h0 : 0 ≤ r) (h1 : r ≤ 127) : Lib.encodeRune r = [r.toNat.toUInt8] := by unfold Lib.encodeRune; rw [Lib.encodeRuneZ_one h0 h1]; rfl

theorem enc_high {r : Int} (h0 : okR r) (h1 : 127 < r) : ∀ c ∈ Lib.encodeRune r, 128 ≤ c.toNat := by
  intro c hc
  unfold Lib.encodeRune at hc
  obtain ⟨x, hx, rfl⟩ := List.mem_map.1 hc
  have hb := Lib.encodeRuneZ_byte r x hx
  have : 128 ≤ x := by
    unfold okR at h0
    unfold Lib.encodeRuneZ at hx
    repeat' split at hx
    all_goals simp at hx
    all_goals omega
  simp
  omega

theorem enc_drop : ∀ (n : Nat) (L : List Int), (∀ r ∈ L, okR r) → asc (enc L) n → n ≤ (enc L).length → (enc L).drop n = enc (L.drop n)
  | 0, L, _, _, _ => rfl
  | n + 1, [], _, _, h => by simp [enc_nil] at h
  | n + 1, r :: L, hok, ha, hn => by
    have hr := hok r (by simp)
    have h0 : 0 ≤ r := by unfold okR at hr; omega
    by_cases h1 : r ≤ 127
    · rw [enc_cons, enc_one h0 h1] at ha hn ⊢
      simp only [List.cons_append, List.nil_append, List.length_cons] at ha hn ⊢
      rw [List.drop_succ_cons, List.drop_succ_cons]
      refine enc_drop n L (fun x hx => hok x (by simp [hx])) (fun j hj => ?_) (by omega)
      exact ha (j + 1) (by omega)
    · exfalso
      have hh := enc_high hr (by omega)
      have hl := encodeRune_le r
      rw [enc_cons] at ha
      have := ha 0 (by omega)
      cases he : Lib.encodeRune r with
      | nil => rw [he] at hl; simp at hl
      | cons c t =>
        rw [he] at this hh
        have h2 := hh c (by simp)
        have e : byt (c :: t ++ enc L) 0 = c.toNat := rfl
        omega

theorem dec_right : ∀ (n : Nat) (L : List Int), L.length ≤ n → (∀ r ∈ L, okN r) → ∃ L', (∀ r ∈ L', okN r) ∧ decB (enc L) = enc L'
  | 0, L, h, _ => by
    have : L = [] := List.eq_nil_of_length_eq_zero (by omega)
    subst this
    exact ⟨[], by simp, rfl⟩
  | n + 1, [], h, _ => ⟨[], by simp, rfl⟩
  | n + 1, r :: L, h, hok => by
    simp only [List.length_cons] at h
    have hr := hok r (by simp)
    have hL : ∀ x ∈ L, okN x := fun x hx => hok x (by simp [hx])
    have h0 : 0 ≤ r := by have := hr.1; unfold okR at this; omega
    obtain ⟨L1, ok1, e1⟩ := dec_right n L (by omega) hL
    have hcons : decB (enc (r :: L)) = Lib.encodeRune r ++ decB (enc L) → ∃ L', (∀ r ∈ L', okN r) ∧ decB (enc (r :: L)) = enc L' := by
      intro e
      refine ⟨r :: L1, ?_, by rw [e, e1, enc_cons]⟩
      intro x hx
      rcases List.mem_cons.1 hx with rfl | hx
      · exact hr
      · exact ok1 x hx
    by_cases h1 : r ≤ 127
    · have ee := enc_one h0 h1
      by_cases h38 : r = 38
      · subst h38
        have e38 : enc (38 :: L) = 38 :: enc L := by rw [enc_cons, ee]; rfl
        by_cases ho : (oneB (38 :: enc L)).2 = 0
        · exact hcons (by rw [e38, decB_amp ho, ee]; rfl)
        · have hf := one_fact _ ho
          rw [← e38] at hf
          have hd := enc_drop _ _ (fun x hx => (hok x hx).1) hf.2.2.2.2 hf.2.2.2.1
          obtain ⟨L2, ok2, e2⟩ := dec_right n ((38 :: L).drop (oneB (enc (38 :: L))).2) (by rw [List.length_drop, List.length_cons]; omega) (fun x hx => hok x (List.mem_of_mem_drop hx))
          refine ⟨(oneB (enc (38 :: L))).1 :: L2, ?_, ?_⟩
          · intro x hx
            rcases List.mem_cons.1 hx with rfl | hx
            · exact hf.1
            · exact ok2 x hx
          · rw [e38, decB_ref ho, ← e38, hd, e2]
            exact (enc_cons _ _).symm
      · refine hcons ?_
        rw [enc_cons, ee]
        refine decB_skip _ _ ?_
        intro c hc
        simp at hc
        subst hc
        intro e
        have := congrArg UInt8.toNat e
        simp at this
        omega
    · refine hcons ?_
      rw [enc_cons]
      refine decB_skip _ _ ?_
      intro c hc e
      have := enc_high hr.1 (by omega) c hc
      rw [e] at this
      simp at this

theorem wr_high {v : Bool} {c : UInt8} (h : 128 ≤ c.toNat) : wrC v c = [c] := by
  have h1 : c ≠ 38 := by rintro rfl; simp at h
  have h2 : c ≠ 60 := by rintro rfl; simp at h
  have h3 : c ≠ 62 := by rintro rfl; simp at h
  have h4 : ¬ (c = 34 ∧ v = true) := by rintro ⟨rfl, _⟩; simp at h
  unfold wrC wrB
  rw [if_neg h1, if_neg h2, if_neg h3, if_neg h4, if_pos rfl]

theorem esc_high (v : Bool) : ∀ l : List UInt8, (∀ c ∈ l, 128 ≤ c.toNat) → escB v l = l
  | [], _ => rfl
  | c :: t, h => by rw [escB_cons, wr_high (h c (by simp)), esc_high v t (fun x hx => h x (by simp [hx]))]; rfl

theorem wr_right (v : Bool) {r : Int} (hr : okN r) (h1 : r ≤ 127) : ∃ L', (∀ x ∈ L', okN x) ∧ escB v (Lib.encodeRune r) = enc L' := by
  have h0 : 0 ≤ r := by have := hr.1; unfold okR at this; omega
  have ee := enc_one h0 h1
  have e2 : escB v (Lib.encodeRune r) = wrC v r.toNat.toUInt8 := by rw [ee, escB_cons, escB_nil, List.append_nil]
  rw [e2]
  by_cases hw : wrB v r.toNat.toUInt8 = []
  · refine ⟨[r], by intro x hx; simp at hx; subst hx; exact hr, ?_⟩
    unfold wrC
    rw [if_pos hw, enc_cons, enc_nil, List.append_nil, ee]
  · unfold wrC
    rw [if_neg hw]
    unfold wrB at hw ⊢
    split
    · exact ⟨[38, 97, 109, 112, 59], by intro x hx; exact okN_of (by simp at hx; rcases hx with rfl | rfl | rfl | rfl | rfl <;> decide), rfl⟩
    split
    · exact ⟨[38, 108, 116, 59], by intro x hx; exact okN_of (by simp at hx; rcases hx with rfl | rfl | rfl | rfl <;> decide), rfl⟩
    split
    · exact ⟨[38, 103, 116, 59], by intro x hx; exact okN_of (by simp at hx; rcases hx with rfl | rfl | rfl | rfl <;> decide), rfl⟩
    split
    · exact ⟨[38, 113, 117, 111, 116, 59], by intro x hx; exact okN_of (by simp at hx; rcases hx with rfl | rfl | rfl | rfl | rfl | rfl <;> decide), rfl⟩
    · exact ⟨[], by simp, rfl⟩

theorem esc_right (v : Bool) : ∀ L : List Int, (∀ r ∈ L, okN r) → ∃ L', (∀ r ∈ L', okN r) ∧ escB v (enc L) = enc L'
  | [], _ => ⟨[], by simp, rfl⟩
  | r :: L, hok => by
    have hr := hok r (by simp)
    obtain ⟨L1, ok1, e1⟩ := esc_right v L (fun x hx => hok x (by simp [hx]))
    obtain ⟨L2, ok2, e2⟩ : ∃ L2, (∀ x ∈ L2, okN x) ∧ escB v (Lib.encodeRune r) = enc L2 := by
      by_cases h1 : r ≤ 127
      · exact wr_right v hr h1
      · exact ⟨[r], by intro x hx; simp at hx; subst hx; exact hr, by rw [esc_high v _ (enc_high hr.1 (by omega)), enc_cons, enc_nil, List.append_nil]⟩
    refine ⟨L2 ++ L1, ?_, by rw [enc_cons, escB_append, e1, e2, enc_append]⟩
    intro x hx
    rcases List.mem_append.1 hx with h | h
    · exact ok2 x h
    · exact ok1 x h

/-! ### digits of a number -/
/-- The number of digits, from a on. -/
def valB (b a : Int) (l : List UInt8) : Int := l.foldl (fun x c => x * b + digR c.toNat) a

theorem digF_val : ∀ (T : List UInt8) (m : Nat) (b a : Int) (t : List UInt8), (∀ c ∈ T, 0 ≤ digR c.toNat ∧ digR c.toNat < b) → T.length ≤ m → (∀ c q, t = c :: q → digR c.toNat < 0) →
    digF m b a (T ++ t) = (valB b a T, T.length)
  | [], 0, b, a, t, _, _, _ => rfl
  | [], m + 1, b, a, [], _, _, _ => rfl
  | [], m + 1, b, a, c :: q, _, _, ht => by
    show digF (m + 1) b a (c :: q) = _
    unfold digF
    rw [if_pos (Or.inl (ht c q rfl))]
    rfl
  | c :: T, 0, b, a, t, _, h, _ => by simp at h
  | c :: T, m + 1, b, a, t, hT, h, ht => by
    have hc := hT c (by simp)
    show digF (m + 1) b a (c :: (T ++ t)) = _
    unfold digF
    rw [if_neg (by omega), digF_val T m b _ t (fun x hx => hT x (by simp [hx])) (by simpa using h) ht]
    rfl

theorem pre_two_no {c d x y : UInt8} {t : List UInt8} (h : d ≠ y) : Lib.hasPrefix (x :: y :: t) [c, d] = false := by
  unfold Lib.hasPrefix
  simp only [List.isPrefixOf]
  simp [h]

theorem one_num {r : Int} {n : Nat} {u : List UInt8} (ht : toldB u = (r, n)) (hn : n ≠ 0) (hu : Lib.hasPrefix (u.drop n) [59] = true) : oneB (38 :: u) = (r, n + 2) := by
  unfold oneB
  rw [if_pos (by rw [pre_cons]; rfl), List.drop_succ_cons, List.drop_zero, ht]
  simp only
  rw [if_neg hn, show 1 + n = n + 1 by omega, List.drop_succ_cons, if_pos hu]

theorem one_tens {T : List UInt8} {n : Int} (hT : ∀ c ∈ T, 48 ≤ c.toNat ∧ c.toNat ≤ 57) (h0 : T ≠ []) (h7 : T.length ≤ 7) (hv : valB 10 0 T = n) (hok : okN n) :
    oneB (38 :: 35 :: (T ++ [59, 120])) = (n, T.length + 3) := by
  have hd : ∀ c ∈ T, 0 ≤ digR c.toNat ∧ digR c.toNat < 10 := by
    intro c hc
    have := hT c hc
    unfold digR
    rw [if_pos (by omega)]
    omega
  have hF := digF_val T 7 10 0 [59, 120] hd h7 (by intro c q h; cases h; decide)
  obtain ⟨c, T', rfl⟩ : ∃ c T', T = c :: T' := by cases T with | nil => exact absurd rfl h0 | cons c t => exact ⟨c, t, rfl⟩
  have hc := hT c (by simp)
  have ht : toldB (35 :: (c :: T' ++ [59, 120])) = (n, (c :: T').length + 1) := by
    unfold toldB
    have p1 : Lib.hasPrefix (35 :: (c :: T' ++ [59, 120])) [35, 120] = false := pre_two_no (by rintro rfl; simp at hc)
    have p2 : Lib.hasPrefix (35 :: (c :: T' ++ [59, 120])) [35, 88] = false := pre_two_no (by rintro rfl; simp at hc)
    rw [if_neg (by rw [p1]; simp), if_neg (by rw [p2]; simp), if_pos (by rw [pre_cons]; rfl)]
    unfold numB
    rw [List.drop_succ_cons, List.drop_zero, hF, hv]
    simp only
    rw [if_neg (by simp)]
    unfold charB
    rw [if_neg (by unfold okN okR at hok; omega), Nat.add_comm]
  have := one_num ht (by omega) (by rw [List.drop_succ_cons, List.drop_left]; rfl)
  rw [this]

theorem one_sixteens {T : List UInt8} {n : Int} (hT : ∀ c ∈ T, 0 ≤ digR c.toNat) (h0 : T ≠ []) (h6 : T.length ≤ 6) (hv : valB 16 0 T = n) (hok : okN n) :
    oneB (38 :: 35 :: 120 :: (T ++ [59, 120])) = (n, T.length + 4) := by
  have hd : ∀ c ∈ T, 0 ≤ digR c.toNat ∧ digR c.toNat < 16 := by
    intro c hc
    have := hT c hc
    have := digR_bd c.toNat
    omega
  have hF := digF_val T 6 16 0 [59, 120] hd h6 (by intro c q h; cases h; decide)
  have hl : T.length ≠ 0 := fun e => h0 (List.eq_nil_of_length_eq_zero e)
  have ht : toldB (35 :: 120 :: (T ++ [59, 120])) = (n, T.length + 2) := by
    unfold toldB
    have p1 : Lib.hasPrefix (35 :: 120 :: (T ++ [59, 120])) [35, 120] = true := by
      unfold Lib.hasPrefix
      simp [List.isPrefixOf]
    rw [if_pos p1]
    unfold numB
    rw [List.drop_succ_cons, List.drop_succ_cons, List.drop_zero, hF, hv]
    simp only
    rw [if_neg hl]
    unfold charB
    rw [if_neg (by unfold okN okR at hok; omega), Nat.add_comm]
  have := one_num ht (by omega) (by rw [List.drop_succ_cons, List.drop_succ_cons, List.drop_left]; rfl)
  rw [this]

end Go.Proofs.YthmnnalamaponaaGreat

/- Part TxtM. -/
namespace Go.Proofs.YthmnnalamaponaaGreat
set_option linter.unusedVariables false

/-- An attribute's text. -/
def attT (a : ByteArray × ByteArray) : List UInt8 := 32 :: (a.1.data.toList ++ (61 :: 34 :: (escB true a.2.data.toList ++ [34])))
/-- What stands ahead of an element's kids, and behind them. -/
def openT (n : Nd) : List UInt8 := 60 :: (n.name.data.toList ++ (n.attrs.flatMap attT ++ [62]))
def closeT (n : Nd) : List UInt8 := 60 :: 47 :: (n.name.data.toList ++ [62])
/-- What is told ahead of, and behind, any node's kids. -/
def openE (n : Nd) : List UInt8 := if n.kind = 1 then openT n else []
def closeE (n : Nd) : List UInt8 := if n.kind = 1 ∧ voidB n.name.data.toList = false then closeT n else []
mutual
/-- A node's text; raw: it stands in a raw element. -/
def txtN (raw : Bool) : Nd → List UInt8
  | .mk k nm a t ks =>
    if k = 3 then 60 :: 33 :: 45 :: 45 :: (t.data.toList ++ [45, 45, 62])
    else if k = 2 then (if raw = true then t.data.toList else escB false t.data.toList)
    else if k = 1 then
      (if voidB nm.data.toList = true then openT (.mk k nm a t ks) else openT (.mk k nm a t ks) ++ (txtL (rawB nm.data.toList) ks ++ closeT (.mk k nm a t ks)))
    else []
/-- Nodes' text. -/
def txtL (raw : Bool) : List Nd → List UInt8
  | [] => []
  | n :: l => txtN raw n ++ txtL raw l
end
theorem txtN_eq (raw : Bool) (n : Nd) : txtN raw n =
    if n.kind = 3 then 60 :: 33 :: 45 :: 45 :: (n.text.data.toList ++ [45, 45, 62])
    else if n.kind = 2 then (if raw = true then n.text.data.toList else escB false n.text.data.toList)
    else if n.kind = 1 then (if voidB n.name.data.toList = true then openT n else openT n ++ (txtL (rawB n.name.data.toList) n.kids ++ closeT n))
    else [] := by
  cases n
  simp only [txtN, Nd.kind, Nd.name, Nd.text, Nd.kids]
  rfl
theorem txtL_nil (raw : Bool) : txtL raw [] = [] := by simp [txtL]
theorem txtL_cons (raw : Bool) (n : Nd) (l : List Nd) : txtL raw (n :: l) = txtN raw n ++ txtL raw l := by simp [txtL]
theorem txtL_append (raw : Bool) : ∀ (a b : List Nd), txtL raw (a ++ b) = txtL raw a ++ txtL raw b
  | [], b => by simp [txtL_nil]
  | x :: a, b => by rw [List.cons_append, txtL_cons, txtL_cons, txtL_append raw a b, List.append_assoc]
theorem txtL_take {raw : Bool} {l : List Nd} {k : Nat} {n : Nd} (h : l[k]? = some n) : txtL raw (l.take (k + 1)) = txtL raw (l.take k) ++ txtN raw n := by
  rw [List.take_add_one, h, txtL_append]
  simp [txtL_cons, txtL_nil]

theorem attT_len (a : ByteArray × ByteArray) : (attT a).length ≤ 6 * (10 + a.1.size + a.2.size) := by
  have h := (escB_len true a.2.data.toList).2
  have h1 : a.1.data.toList.length = a.1.size := by simp
  have h2 : a.2.data.toList.length = a.2.size := by simp
  unfold attT
  simp only [List.length_cons, List.length_append, List.length_nil]
  omega
theorem atts_len : ∀ l : List (ByteArray × ByteArray), (l.flatMap attT).length ≤ 6 * szA l
  | [] => by simp
  | a :: l => by
    have h1 := attT_len a
    have h2 := atts_len l
    rw [List.flatMap_cons, List.length_append, szA]
    omega
theorem openT_len (n : Nd) : (openT n).length ≤ 6 * (n.name.size + szA n.attrs) + 2 := by
  have h1 := atts_len n.attrs
  have h2 : n.name.data.toList.length = n.name.size := by simp
  unfold openT
  simp only [List.length_cons, List.length_append, List.length_nil]
  omega
theorem closeT_len (n : Nd) : (closeT n).length = n.name.size + 3 := by
  have h2 : n.name.data.toList.length = n.name.size := by simp
  unfold closeT
  simp only [List.length_cons, List.length_append, List.length_nil]
  omega

/-- A list's text is bounded by the list's size. -/
theorem txt_len : ∀ l : List Nd, ∀ raw, (txtL raw l).length ≤ 7 * szL l := by
  intro l
  induction l using nd_ind with
  | h l ih =>
    intro raw
    have key : ∀ m : List Nd, (∀ x ∈ m, ∀ r, (txtL r x.kids).length ≤ 7 * szL x.kids) → (txtL raw m).length ≤ 7 * szL m := by
      intro m
      induction m with
      | nil => intro _; simp [txtL_nil]
      | cons x m ihm =>
        intro h
        have h1 := ihm fun y hy => h y (by simp [hy])
        have h2 := h x (by simp) (rawB x.name.data.toList)
        have h3 := szN_eq x
        have h4 := openT_len x
        have h5 := closeT_len x
        have h6 := (escB_len false x.text.data.toList).2
        have h7 : x.text.data.toList.length = x.text.size := by simp
        have h8 : (txtN raw x).length ≤ 7 * szN x := by
          rw [txtN_eq]
          split
          · simp only [List.length_cons, List.length_append, List.length_nil]; omega
          · split
            · split <;> omega
            · split
              · split
                · omega
                · simp only [List.length_append]; omega
              · simp
        rw [txtL_cons, szL_cons, List.length_append]
        omega
    exact key l fun x hx => by
      obtain ⟨i, hi, he⟩ := List.mem_iff_getElem.1 hx
      exact ih i x (by rw [List.getElem?_eq_getElem hi, he])

/-! ### all texts -/
mutual
def plainN : Nd → List UInt8
  | .mk k _ _ t ks => (if k = 2 then t.data.toList else []) ++ plainL ks
def plainL : List Nd → List UInt8
  | [] => []
  | n :: l => plainN n ++ plainL l
end
theorem plainN_eq (n : Nd) : plainN n = (if n.kind = 2 then n.text.data.toList else []) ++ plainL n.kids := by
  cases n
  simp only [plainN, Nd.kind, Nd.text, Nd.kids]
  rfl
theorem plainL_nil : plainL [] = [] := by simp [plainL]
theorem plainL_cons (n : Nd) (l : List Nd) : plainL (n :: l) = plainN n ++ plainL l := by simp [plainL]
theorem plainL_append : ∀ (a b : List Nd), plainL (a ++ b) = plainL a ++ plainL b
  | [], b => by simp [plainL_nil]
  | x :: a, b => by rw [List.cons_append, plainL_cons, plainL_cons, plainL_append a b, List.append_assoc]
theorem plainL_take {l : List Nd} {k : Nat} {n : Nd} (h : l[k]? = some n) : plainL (l.take (k + 1)) = plainL (l.take k) ++ plainN n := by
  rw [List.take_add_one, h, plainL_append]
  simp [plainL_cons, plainL_nil]
theorem plain_len : ∀ l : List Nd, (plainL l).length ≤ szL l := by
  intro l
  induction l using nd_ind with
  | h l ih =>
    have key : ∀ m : List Nd, (∀ x ∈ m, (plainL x.kids).length ≤ szL x.kids) → (plainL m).length ≤ szL m := by
      intro m
      induction m with
      | nil => intro _; simp [plainL_nil]
      | cons x m ihm =>
        intro h
        have h1 := ihm fun y hy => h y (by simp [hy])
        have h2 := h x (by simp)
        have h3 := szN_eq x
        have h7 : x.text.data.toList.length = x.text.size := by simp
        have h8 : (plainN x).length ≤ szN x := by
          rw [plainN_eq, List.length_append]
          split
          · omega
          · simp; omega
        rw [plainL_cons, szL_cons, List.length_append]
        omega
    exact key l fun x hx => by
      obtain ⟨i, hi, he⟩ := List.mem_iff_getElem.1 hx
      exact ih i x (by rw [List.getElem?_eq_getElem hi, he])

end Go.Proofs.YthmnnalamaponaaGreat

/- Part MathA. -/
namespace Go.Proofs.YthmnnalamaponaaGreat

/-- A byte with A to Z as a to z. -/
def lowB (c : UInt8) : UInt8 := if 65 ≤ c.toNat ∧ c.toNat ≤ 90 then c + 32 else c

theorem lowB_toNat (c : UInt8) : (lowB c).toNat = if 65 ≤ c.toNat ∧ c.toNat ≤ 90 then c.toNat + 32 else c.toNat := by
  unfold lowB
  split
  · rename_i h
    rw [UInt8.toNat_add]
    show (c.toNat + 32) % 256 = _
    omega
  · rfl

theorem lowB_up (c : UInt8) : ¬ (65 ≤ (lowB c).toNat ∧ (lowB c).toNat ≤ 90) := by
  rw [lowB_toNat]
  split <;> omega

theorem lowB_low (c : UInt8) : lowB (lowB c) = lowB c := by
  have h := lowB_up c
  show (if _ then _ else _) = _
  rw [if_neg h]

end Go.Proofs.YthmnnalamaponaaGreat

/- Part TokM. -/
namespace Go.Proofs.YthmnnalamaponaaGreat
set_option linter.unusedVariables false

/-- A blank; a letter; a byte of a tag's name; one at which an attribute's name ends; one of a value without quotes. -/
def blC (c : UInt8) : Bool := decide (c.toNat = 9) || decide (c.toNat = 10) || decide (c.toNat = 12) || decide (c.toNat = 32)
def letC (c : UInt8) : Bool := (decide (65 ≤ c.toNat) && decide (c.toNat ≤ 90)) || (decide (97 ≤ c.toNat) && decide (c.toNat ≤ 122))
def tagC (c : UInt8) : Bool := letC c || (decide (48 ≤ c.toNat) && decide (c.toNat ≤ 57)) || decide (c.toNat = 45)
def stopC (c : UInt8) : Bool := blC c || decide (c.toNat = 47) || decide (c.toNat = 62) || decide (c.toNat = 61)
def goC (c : UInt8) : Bool := !stopC c
def valC (c : UInt8) : Bool := !(blC c || decide (c.toNat = 62))
/-- No quote q. -/
def neC (q : UInt8) (c : UInt8) : Bool := !decide (c = q)

/-- A token. -/
structure Tk where
  kind : Int
  name : ByteArray
  attrs : List (ByteArray × ByteArray)
  text : ByteArray
def tkB (name : List UInt8) (ats : List (ByteArray × ByteArray)) : Tk := ⟨1, tB name, ats, tB []⟩
def tkE (name : List UInt8) : Tk := ⟨2, tB name, [], tB []⟩
def tkC (text : List UInt8) : Tk := ⟨3, tB [], [], tB text⟩
def tkR (text : List UInt8) : Tk := ⟨4, tB [], [], tB text⟩

/-- A value, and what stands behind it; none: it does not end. -/
def valOf : List UInt8 → Option (List UInt8 × List UInt8)
  | [] => some ([], [])
  | q :: r =>
    if q = 34 ∨ q = 39 then (if q ∈ r then some (r.takeWhile (neC q), (r.dropWhile (neC q)).drop 1) else none)
    else some ((q :: r).takeWhile valC, (q :: r).dropWhile valC)
/-- The name of the attribute at a place; what stands behind it and blanks. -/
def nameAt (l : List UInt8) : List UInt8 := (l.takeWhile goC).map lowB
def behind (l : List UInt8) : List UInt8 := (l.dropWhile goC).dropWhile blC
/-- The attribute at a place, and what stands behind it. -/
def attOf (l : List UInt8) : Option ((ByteArray × ByteArray) × List UInt8) :=
  match behind l with
  | [] => some ((tB (nameAt l), tB []), [])
  | c :: r =>
    if c = 61 then
      (match valOf (r.dropWhile blC) with
      | none => none
      | some x => some ((tB (nameAt l), tB (decB x.1)), x.2))
    else some ((tB (nameAt l), tB []), c :: r)
/-- Of attributes of one name the first one counts. -/
def addA (acc : List (ByteArray × ByteArray)) (a : ByteArray × ByteArray) : List (ByteArray × ByteArray) := if acc.any (fun x => decide (x.1 = a.1)) = true then acc else acc ++ [a]
/-- A beginning tag's attributes, and what stands behind its end; none: it does not end. -/
def attsOf (acc : List (ByteArray × ByteArray)) (l : List UInt8) : Option (List (ByteArray × ByteArray) × List UInt8) :=
  match l with
  | [] => none
  | c :: r =>
    if c = 62 then some (acc, r)
    else if stopC c = true then attsOf acc r
    else match attOf (c :: r) with
      | none => none
      | some x => if h : x.2.length < (c :: r).length then attsOf (addA acc x.1) x.2 else none
termination_by l.length

/-- What stands ahead of -->, and behind it (or all that is left). -/
def upTo3 : List UInt8 → List UInt8 × List UInt8
  | [] => ([], [])
  | c :: r => if Lib.hasPrefix (c :: r) [45, 45, 62] = true then ([], (c :: r).drop 3) else (c :: (upTo3 r).1, (upTo3 r).2)
def upTo1 (l : List UInt8) : List UInt8 × List UInt8 := (l.takeWhile (neC 62), (l.dropWhile (neC 62)).drop 1)

/-- Does a tag or a comment begin? -/
def startsB : List UInt8 → Bool
  | a :: c :: _ => decide (a = 60) && (letC c || decide (c = 33) || decide (c = 63) || decide (c = 47))
  | _ => false
/-- A closing tag, or what </ begins. -/
def slashB : List UInt8 → Option Tk × List UInt8
  | [] => (some (tkR []), [])
  | d :: r =>
    if d = 62 then (none, r)
    else if letC d = true then (if 62 ∈ d :: r then (some (tkE (((d :: r).takeWhile tagC).map lowB)), (upTo1 (d :: r)).2) else (none, []))
    else (some (tkR (upTo1 (d :: r)).1), (upTo1 (d :: r)).2)
/-- What a < and what stands behind it begin, and what stands behind that. -/
def tagB : List UInt8 → Option Tk × List UInt8
  | _ :: c :: r =>
    if letC c = true then
      (match attsOf [] ((c :: r).dropWhile tagC) with
      | some x => (some (tkB (((c :: r).takeWhile tagC).map lowB) x.1), x.2)
      | none => (none, []))
    else if Lib.hasPrefix (c :: r) [33, 45, 45] = true then (some (tkR (upTo3 (r.drop 2)).1), (upTo3 (r.drop 2)).2)
    else if c = 47 then slashB r
    else (some (tkR (upTo1 r).1), (upTo1 r).2)
  | _ => (none, [])
/-- Does a raw element's end stand here? -/
def endAt (nm l : List UInt8) : Bool :=
  decide ((l.take (2 + nm.length)).map lowB = 60 :: 47 :: nm) && (match l.drop (2 + nm.length) with | [] => false | c :: _ => blC c || decide (c = 47) || decide (c = 62))
/-- What stands up to a raw element's end, and from there. -/
def cutEnd (nm : List UInt8) : List UInt8 → List UInt8 × List UInt8
  | [] => ([], [])
  | c :: r => if endAt nm (c :: r) = true then ([], c :: r) else (c :: (cutEnd nm r).1, (cutEnd nm r).2)
/-- Characters up to the next tag or comment. -/
def charsB : List UInt8 → List UInt8 × List UInt8
  | [] => ([], [])
  | c :: r => if startsB (c :: r) = true then ([], c :: r) else (c :: (charsB r).1, (charsB r).2)
def rawBody (l : List UInt8) : List Tk := if l = [] then [] else [tkC l]
def rawTk (k : Tk) : Bool := decide (k.kind = 1) && rawB k.name.data.toList

/-- A text's tokens. -/
def tokB (l : List UInt8) : List Tk :=
  match l with
  | [] => []
  | c :: r =>
    if startsB (c :: r) = true then
      (if h : (tagB (c :: r)).2.length < (c :: r).length then
        (match (tagB (c :: r)).1 with
        | none => tokB (tagB (c :: r)).2
        | some k =>
          if rawTk k = true then
            (if h2 : (cutEnd k.name.data.toList (tagB (c :: r)).2).2.length ≤ (tagB (c :: r)).2.length then k :: (rawBody (cutEnd k.name.data.toList (tagB (c :: r)).2).1 ++ tokB (cutEnd k.name.data.toList (tagB (c :: r)).2).2) else [])
          else k :: tokB (tagB (c :: r)).2)
      else [])
    else (if h : (charsB (c :: r)).2.length < (c :: r).length then tkC (decB (charsB (c :: r)).1) :: tokB (charsB (c :: r)).2 else [])
termination_by l.length
decreasing_by all_goals (simp only [List.length_cons] at *; omega)

/-! ### their rows -/
theorem valOf_cons (q : UInt8) (r : List UInt8) : valOf (q :: r) = if q = 34 ∨ q = 39 then (if q ∈ r then some (r.takeWhile (neC q), (r.dropWhile (neC q)).drop 1) else none) else some ((q :: r).takeWhile valC, (q :: r).dropWhile valC) := rfl
theorem attOf_nil {l : List UInt8} (h : behind l = []) : attOf l = some ((tB (nameAt l), tB []), []) := by unfold attOf; rw [h]
theorem attOf_eq {l : List UInt8} {r : List UInt8} (h : behind l = 61 :: r) : attOf l = (match valOf (r.dropWhile blC) with | none => none | some x => some ((tB (nameAt l), tB (decB x.1)), x.2)) := by
  unfold attOf
  rw [h]
  exact if_pos rfl
theorem attOf_other {l : List UInt8} {c : UInt8} {r : List UInt8} (h : behind l = c :: r) (hc : c ≠ 61) : attOf l = some ((tB (nameAt l), tB []), c :: r) := by
  unfold attOf
  rw [h]
  exact if_neg hc
theorem upTo3_cons (c : UInt8) (r : List UInt8) : upTo3 (c :: r) = if Lib.hasPrefix (c :: r) [45, 45, 62] = true then ([], (c :: r).drop 3) else (c :: (upTo3 r).1, (upTo3 r).2) := rfl
theorem slashB_cons (d : UInt8) (r : List UInt8) : slashB (d :: r) = if d = 62 then (none, r) else if letC d = true then (if 62 ∈ d :: r then (some (tkE (((d :: r).takeWhile tagC).map lowB)), (upTo1 (d :: r)).2) else (none, [])) else (some (tkR (upTo1 (d :: r)).1), (upTo1 (d :: r)).2) := rfl
theorem tagB_letter {a c : UInt8} {r : List UInt8} (h : letC c = true) : tagB (a :: c :: r) = (match attsOf [] ((c :: r).dropWhile tagC) with | some x => (some (tkB (((c :: r).takeWhile tagC).map lowB) x.1), x.2) | none => (none, [])) := by
  show (if letC c = true then _ else _) = _
  rw [if_pos h]
theorem tagB_remark {a : UInt8} (r : List UInt8) : tagB (a :: 33 :: 45 :: 45 :: r) = (some (tkR (upTo3 r).1), (upTo3 r).2) := rfl
theorem tagB_slash {a : UInt8} (r : List UInt8) : tagB (a :: 47 :: r) = slashB r := rfl
theorem tagB_other {a c : UInt8} {r : List UInt8} (h : letC c = false) (h1 : Lib.hasPrefix (c :: r) [33, 45, 45] = false) (h2 : c ≠ 47) : tagB (a :: c :: r) = (some (tkR (upTo1 r).1), (upTo1 r).2) := by
  show (if letC c = true then _ else if Lib.hasPrefix (c :: r) [33, 45, 45] = true then _ else if c = 47 then _ else _) = _
  rw [if_neg (by rw [h]; decide), if_neg (by rw [h1]; decide), if_neg h2]
theorem cutEnd_cons (nm : List UInt8) (c : UInt8) (r : List UInt8) : cutEnd nm (c :: r) = if endAt nm (c :: r) = true then ([], c :: r) else (c :: (cutEnd nm r).1, (cutEnd nm r).2) := rfl
theorem charsB_cons (c : UInt8) (r : List UInt8) : charsB (c :: r) = if startsB (c :: r) = true then ([], c :: r) else (c :: (charsB r).1, (charsB r).2) := rfl

/-! ### lengths -/
theorem drop_len {α : Type} (p : α → Bool) (l : List α) : (l.dropWhile p).length ≤ l.length := (List.dropWhile_sublist p).length_le

theorem valOf_len {l : List UInt8} {x : List UInt8 × List UInt8} (h : valOf l = some x) : x.2.length ≤ l.length := by
  cases l with
  | nil =>
    have h' : some (([], []) : List UInt8 × List UInt8) = some x := h
    injection h' with h'
    subst h'
    simp
  | cons q r =>
    rw [valOf_cons] at h
    split at h
    · split at h
      · injection h with h
        subst h
        have := drop_len (neC q) r
        simp only [List.length_drop, List.length_cons]
        omega
      · cases h
    · injection h with h
      subst h
      exact drop_len _ _
theorem behind_len (l : List UInt8) : (behind l).length ≤ (l.dropWhile goC).length := drop_len _ _
theorem go_less {c : UInt8} {r : List UInt8} (h : stopC c = false) : ((c :: r).dropWhile goC).length < (c :: r).length := by
  have : goC c = true := by simp [goC, h]
  rw [List.dropWhile_cons, if_pos this]
  have := drop_len goC r
  simp only [List.length_cons]
  omega
theorem attOf_len {c : UInt8} {r : List UInt8} {x : (ByteArray × ByteArray) × List UInt8} (hc : stopC c = false) (h : attOf (c :: r) = some x) : x.2.length < (c :: r).length := by
  have h1 := behind_len (c :: r)
  have h2 := go_less (r := r) hc
  cases hb : behind (c :: r) with
  | nil =>
    rw [attOf_nil hb] at h
    injection h with h
    subst h
    simp
  | cons c' r' =>
    rw [hb, List.length_cons] at h1
    by_cases he : c' = 61
    · subst he
      rw [attOf_eq hb] at h
      cases hv : valOf (r'.dropWhile blC) with
      | none => rw [hv] at h; cases h
      | some y =>
        rw [hv] at h
        injection h with h
        subst h
        have h3 := valOf_len hv
        have h4 := drop_len blC r'
        show y.2.length < _
        omega
    · rw [attOf_other hb he] at h
      injection h with h
      subst h
      show (c' :: r').length < _
      rw [List.length_cons]
      omega

theorem attsOf_nil (acc : List (ByteArray × ByteArray)) : attsOf acc [] = none := by unfold attsOf; rfl
theorem attsOf_end (acc : List (ByteArray × ByteArray)) (r : List UInt8) : attsOf acc (62 :: r) = some (acc, r) := by unfold attsOf; rw [if_pos rfl]
theorem attsOf_skip (acc : List (ByteArray × ByteArray)) {c : UInt8} (r : List UInt8) (h1 : c ≠ 62) (h2 : stopC c = true) : attsOf acc (c :: r) = attsOf acc r := by
  conv => lhs; unfold attsOf
  rw [if_neg h1, if_pos h2]
theorem attsOf_none (acc : List (ByteArray × ByteArray)) {c : UInt8} {r : List UInt8} (h2 : stopC c = false) (h : attOf (c :: r) = none) : attsOf acc (c :: r) = none := by
  have h1 : c ≠ 62 := fun e => by subst e; cases h2
  unfold attsOf
  rw [if_neg h1, if_neg (by rw [h2]; decide), h]
theorem attsOf_some (acc : List (ByteArray × ByteArray)) {c : UInt8} {r : List UInt8} {x : (ByteArray × ByteArray) × List UInt8} (h2 : stopC c = false) (h : attOf (c :: r) = some x) : attsOf acc (c :: r) = attsOf (addA acc x.1) x.2 := by
  have h1 : c ≠ 62 := fun e => by subst e; cases h2
  conv => lhs; unfold attsOf
  rw [if_neg h1, if_neg (by rw [h2]; decide), h]
  exact dif_pos (attOf_len h2 h)

theorem attsOf_len : ∀ (n : Nat) (l : List UInt8) (acc : List (ByteArray × ByteArray)) (x : List (ByteArray × ByteArray) × List UInt8), l.length ≤ n → attsOf acc l = some x → x.2.length < l.length
  | n, [], acc, x, _, h => by rw [attsOf_nil] at h; cases h
  | 0, c :: r, acc, x, hn, h => by simp at hn
  | n + 1, c :: r, acc, x, hn, h => by
    rw [List.length_cons] at hn ⊢
    by_cases h1 : c = 62
    · subst h1
      rw [attsOf_end] at h
      injection h with h
      subst h
      show r.length < r.length + 1
      omega
    cases h2 : stopC c with
    | true =>
      rw [attsOf_skip acc r h1 h2] at h
      have := attsOf_len n r acc x (by omega) h
      omega
    | false =>
      cases h3 : attOf (c :: r) with
      | none => rw [attsOf_none acc h2 h3] at h; cases h
      | some y =>
        rw [attsOf_some acc h2 h3] at h
        have h4 := attOf_len h2 h3
        rw [List.length_cons] at h4
        have := attsOf_len n y.2 _ x (by omega) h
        omega

theorem upTo3_len : ∀ l : List UInt8, (upTo3 l).2.length ≤ l.length
  | [] => Nat.le_refl _
  | c :: r => by
    rw [upTo3_cons]
    split
    · show ((c :: r).drop 3).length ≤ _
      rw [List.length_drop]
      omega
    · have := upTo3_len r
      show (upTo3 r).2.length ≤ r.length + 1
      omega
theorem upTo1_len (l : List UInt8) : (upTo1 l).2.length ≤ l.length := by
  have := drop_len (neC 62) l
  show ((l.dropWhile (neC 62)).drop 1).length ≤ _
  rw [List.length_drop]
  omega
theorem slashB_len : ∀ l : List UInt8, (slashB l).2.length ≤ l.length
  | [] => Nat.le_refl _
  | d :: r => by
    have h := upTo1_len (d :: r)
    rw [slashB_cons]
    split
    · show r.length ≤ r.length + 1; omega
    · split
      · split
        · exact h
        · exact Nat.zero_le _
      · exact h
theorem starts_form {l : List UInt8} (h : startsB l = true) : ∃ c r, l = 60 :: c :: r ∧ (letC c = true ∨ c = 33 ∨ c = 63 ∨ c = 47) := by
  match l, h with
  | a :: c :: r, h =>
    simp only [startsB, Bool.and_eq_true, Bool.or_eq_true, decide_eq_true_eq] at h
    obtain ⟨rfl, h⟩ := h
    exact ⟨c, r, rfl, by rcases h with ((h | h) | h) | h <;> simp [h]⟩
theorem pre_form3 {l : List UInt8} {a b c : UInt8} (h : Lib.hasPrefix l [a, b, c] = true) : ∃ t, l = a :: b :: c :: t := by
  unfold Lib.hasPrefix at h
  rw [List.isPrefixOf_iff_prefix] at h
  obtain ⟨t, rfl⟩ := h
  exact ⟨t, rfl⟩
theorem tagB_len {l : List UInt8} (h : startsB l = true) : (tagB l).2.length < l.length := by
  obtain ⟨c, r, rfl, _⟩ := starts_form h
  cases hl : letC c with
  | true =>
    rw [tagB_letter hl]
    cases ha : attsOf [] ((c :: r).dropWhile tagC) with
    | none => exact Nat.succ_pos _
    | some x =>
      have h1 := attsOf_len _ _ _ x (Nat.le_refl _) ha
      have h2 := drop_len tagC (c :: r)
      show x.2.length < _
      rw [List.length_cons] at h2 ⊢
      rw [List.length_cons]
      omega
  | false =>
    cases hp : Lib.hasPrefix (c :: r) [33, 45, 45] with
    | true =>
      obtain ⟨t, ht⟩ := pre_form3 hp
      injection ht with h1 h2
      subst h1
      subst h2
      rw [tagB_remark]
      have := upTo3_len t
      show (upTo3 t).2.length < _
      simp only [List.length_cons]
      omega
    | false =>
      by_cases h4 : c = 47
      · subst h4
        rw [tagB_slash]
        have := slashB_len r
        simp only [List.length_cons]
        omega
      · rw [tagB_other hl hp h4]
        have := upTo1_len r
        show (upTo1 r).2.length < _
        simp only [List.length_cons]
        omega
theorem cutEnd_len (nm : List UInt8) : ∀ l : List UInt8, (cutEnd nm l).2.length ≤ l.length
  | [] => Nat.le_refl _
  | c :: r => by
    rw [cutEnd_cons]
    split
    · exact Nat.le_refl _
    · have := cutEnd_len nm r
      show (cutEnd nm r).2.length ≤ r.length + 1
      omega
theorem cutEnd_app (nm : List UInt8) : ∀ l : List UInt8, (cutEnd nm l).1 ++ (cutEnd nm l).2 = l
  | [] => rfl
  | c :: r => by
    rw [cutEnd_cons]
    split
    · rfl
    · show c :: ((cutEnd nm r).1 ++ (cutEnd nm r).2) = _
      rw [cutEnd_app nm r]
theorem charsB_len : ∀ l : List UInt8, (charsB l).2.length ≤ l.length
  | [] => Nat.le_refl _
  | c :: r => by
    rw [charsB_cons]
    split
    · exact Nat.le_refl _
    · have := charsB_len r
      show (charsB r).2.length ≤ r.length + 1
      omega
theorem charsB_less {c : UInt8} {r : List UInt8} (h : startsB (c :: r) = false) : (charsB (c :: r)).2.length < (c :: r).length := by
  rw [charsB_cons, if_neg (by rw [h]; decide)]
  have := charsB_len r
  show (charsB r).2.length < r.length + 1
  omega

/-! ### step by step -/
theorem tokB_nil : tokB [] = [] := by unfold tokB; rfl
theorem tokB_chars {c : UInt8} {r : List UInt8} (h : startsB (c :: r) = false) : tokB (c :: r) = tkC (decB (charsB (c :: r)).1) :: tokB (charsB (c :: r)).2 := by
  conv => lhs; unfold tokB
  rw [if_neg (by rw [h]; decide)]
  exact dif_pos (charsB_less h)
theorem tokB_none {l : List UInt8} (h : startsB l = true) (ht : (tagB l).1 = none) : tokB l = tokB (tagB l).2 := by
  have hl := tagB_len h
  cases l with
  | nil => cases h
  | cons c r =>
    conv => lhs; unfold tokB
    rw [if_pos h, dif_pos hl, ht]
theorem tokB_tag {l : List UInt8} {k : Tk} (h : startsB l = true) (ht : (tagB l).1 = some k) (hr : rawTk k = false) : tokB l = k :: tokB (tagB l).2 := by
  have hl := tagB_len h
  cases l with
  | nil => cases h
  | cons c r =>
    conv => lhs; unfold tokB
    rw [if_pos h, dif_pos hl, ht]
    show (if rawTk k = true then _ else _) = _
    rw [if_neg (by rw [hr]; decide)]
theorem tokB_raw {l : List UInt8} {k : Tk} (h : startsB l = true) (ht : (tagB l).1 = some k) (hr : rawTk k = true) :
    tokB l = k :: (rawBody (cutEnd k.name.data.toList (tagB l).2).1 ++ tokB (cutEnd k.name.data.toList (tagB l).2).2) := by
  have hl := tagB_len h
  cases l with
  | nil => cases h
  | cons c r =>
    conv => lhs; unfold tokB
    rw [if_pos h, dif_pos hl, ht]
    show (if rawTk k = true then _ else _) = _
    rw [if_pos hr]
    exact dif_pos (cutEnd_len _ _)

end Go.Proofs.YthmnnalamaponaaGreat
