/- Plain facts on references: what they stand for, what is decoded, what is written. No program in it. -/
import Derived.Test.YtenjhfkdbmljnaaMathU
import Derived.Lib.Strings
namespace Go.Proofs.Ytenjhfkdbmljnaa
set_option linter.unusedVariables false

/-! ### names -/
def updF (f : List UInt8 → Option Int) (k : List UInt8) (v : Int) : List UInt8 → Option Int := fun l => if l = k then some v else f l
/-- A name's character. -/
def nameB : List UInt8 → Option Int :=
  updF (updF (updF (updF (updF (updF (updF (updF (updF (updF (updF (updF (updF (updF (updF (fun _ => none)
    [97, 109, 112] 38) [108, 116] 60) [103, 116] 62) [113, 117, 111, 116] 34) [97, 112, 111, 115] 39) [110, 98, 115, 112] 160) [99, 111, 112, 121] 169) [114, 101, 103] 174)
    [100, 101, 103] 176) [109, 105, 100, 100, 111, 116] 183) [116, 105, 109, 101, 115] 215) [110, 100, 97, 115, 104] 8211) [109, 100, 97, 115, 104] 8212) [104, 101, 108, 108, 105, 112] 8230) [101, 117, 114, 111] 8364

theorem updF_cases {f : List UInt8 → Option Int} {k : List UInt8} {v : Int} {P : List UInt8 → Int → Prop} (h0 : P k v) (h : ∀ l r, f l = some r → P l r) : ∀ l r, updF f k v l = some r → P l r := by
  intro l r hr
  unfold updF at hr
  split at hr
  · rename_i e; subst e; cases hr; exact h0
  · exact h l r hr

def okNB (r : Int) : Bool := decide ((0 ≤ r ∧ r < 55296) ∨ (57343 < r ∧ r ≤ 1114111)) && decide (r ≠ 0) && decide (r ≠ 13)
theorem okN_of {r : Int} (h : okNB r = true) : okN r := by
  unfold okNB at h
  simp at h
  unfold okN okR
  omega

theorem name_fact (l : List UInt8) (r : Int) (h : nameB l = some r) : 2 ≤ l.length ∧ l.length ≤ 6 ∧ okNB r = true := by
  revert l r
  unfold nameB
  iterate 15 refine updF_cases (P := fun l r => 2 ≤ l.length ∧ l.length ≤ 6 ∧ okNB r = true) (by decide) ?_
  intro l r h
  cases h

/-- Is a byte a small letter? -/
def isLow (c : UInt8) : Bool := decide (97 ≤ c.toNat) && decide (c.toNat ≤ 122)
/-- How many small letters bytes begin with. -/
def lowN (l : List UInt8) : Nat := (l.takeWhile isLow).length

theorem lowN_le (l : List UInt8) : lowN l ≤ l.length := by
  unfold lowN
  exact (List.takeWhile_sublist _).length_le
theorem lowN_take (l : List UInt8) : l.take (lowN l) = l.takeWhile isLow := by
  unfold lowN
  induction l with
  | nil => rfl
  | cons c t ih =>
    rw [List.takeWhile_cons]
    split
    · simp [ih]
    · simp

/-! ### numbers -/
/-- What a digit counts; -1, if it is none. -/
def digR (r : Int) : Int := if 48 ≤ r ∧ r ≤ 57 then r - 48 else if 97 ≤ r ∧ r ≤ 102 then r - 97 + 10 else if 65 ≤ r ∧ r ≤ 70 then r - 65 + 10 else -1
/-- The number of at most m digits with which bytes begin, from a on, and how many these are. -/
def digF : Nat → Int → Int → List UInt8 → Int × Nat
  | 0, _, a, _ => (a, 0)
  | _ + 1, _, a, [] => (a, 0)
  | m + 1, b, a, c :: t => if digR c.toNat < 0 ∨ b ≤ digR c.toNat then (a, 0) else ((digF m b (a * b + digR c.toNat) t).1, (digF m b (a * b + digR c.toNat) t).2 + 1)
/-- What a number stands for. -/
def charB (x : Int) : Int := if x = 0 ∨ x = 13 ∨ ¬ ((0 ≤ x ∧ x < 55296) ∨ (57343 < x ∧ x ≤ 1114111)) then 65533 else x
def numB (l : List UInt8) (k : Nat) (b : Int) (m : Nat) : Int × Nat := if (digF m b 0 (l.drop k)).2 = 0 then (0, 0) else (charB (digF m b 0 (l.drop k)).1, k + (digF m b 0 (l.drop k)).2)
/-- What the number or the name with which bytes begin stands for, and how many bytes it has. -/
def toldB (l : List UInt8) : Int × Nat :=
  if Lib.hasPrefix l [35, 120] = true then numB l 2 16 6
  else if Lib.hasPrefix l [35, 88] = true then numB l 2 16 6
  else if Lib.hasPrefix l [35] = true then numB l 1 10 7
  else match nameB (l.take (lowN l)) with
    | some r => (r, lowN l)
    | none => (0, 0)
/-- What the reference with which bytes begin stands for, and how many bytes it has. -/
def oneB (l : List UInt8) : Int × Nat :=
  if Lib.hasPrefix l [38] = true then
    if (toldB (l.drop 1)).2 = 0 then (0, 0)
    else if Lib.hasPrefix (l.drop (1 + (toldB (l.drop 1)).2)) [59] = true then ((toldB (l.drop 1)).1, (toldB (l.drop 1)).2 + 2) else (0, 0)
  else (0, 0)

theorem charB_ok (x : Int) : okN (charB x) := by
  unfold charB okN okR
  split <;> omega

theorem digR_bd (r : Int) : -1 ≤ digR r ∧ digR r ≤ 15 := by
  unfold digR
  repeat' split
  all_goals omega

theorem digF_len : ∀ (m : Nat) (b a : Int) (l : List UInt8), (digF m b a l).2 ≤ l.length ∧ (digF m b a l).2 ≤ m
  | 0, b, a, l => by simp [digF]
  | m + 1, b, a, [] => by simp [digF]
  | m + 1, b, a, c :: t => by
    unfold digF
    split
    · simp
    · have := digF_len m b (a * b + digR c.toNat) t
      simp only [List.length_cons]
      omega

/-- Small: bytes below 128, at the beginning. -/
def asc (l : List UInt8) (n : Nat) : Prop := ∀ j, j < n → byt l j < 128

theorem asc_cons {c : UInt8} {t : List UInt8} {n : Nat} (hc : c.toNat < 128) (h : asc t n) : asc (c :: t) (n + 1) := by
  intro j hj
  match j with
  | 0 => exact hc
  | j + 1 => exact h j (by omega)

theorem asc_zero (l : List UInt8) : asc l 0 := fun j hj => absurd hj (by omega)

theorem digR_asc {c : UInt8} (h : ¬ digR c.toNat < 0) : c.toNat < 128 := by
  unfold digR at h
  have := c.toNat_lt
  repeat' split at h
  all_goals omega

theorem digF_asc : ∀ (m : Nat) (b a : Int) (l : List UInt8), asc l (digF m b a l).2
  | 0, b, a, l => asc_zero l
  | m + 1, b, a, [] => asc_zero []
  | m + 1, b, a, c :: t => by
    unfold digF
    split
    · exact asc_zero _
    · exact asc_cons (digR_asc (by omega)) (digF_asc m b _ t)

theorem asc_drop {l : List UInt8} {k n : Nat} (h : asc (l.drop k) n) (h0 : asc l k) : asc l (k + n) := by
  intro j hj
  by_cases hk : j < k
  · exact h0 j hk
  · have := h (j - k) (by omega)
    unfold byt at this ⊢
    rw [List.getD_eq_getElem?_getD, List.getElem?_drop] at this
    rw [List.getD_eq_getElem?_getD]
    rw [show k + (j - k) = j by omega] at this
    exact this

theorem asc_low (l : List UInt8) : asc l (lowN l) := by
  unfold lowN
  induction l with
  | nil => exact asc_zero _
  | cons c t ih =>
    rw [List.takeWhile_cons]
    split
    · rename_i h
      unfold isLow at h
      simp at h
      exact asc_cons (by omega) ih
    · exact asc_zero _

theorem pre_one {l : List UInt8} {c : UInt8} (h : Lib.hasPrefix l [c] = true) : ∃ t, l = c :: t := by
  unfold Lib.hasPrefix at h
  cases l with
  | nil => simp [List.isPrefixOf] at h
  | cons x t => simp [List.isPrefixOf] at h; exact ⟨t, by rw [h]⟩
theorem pre_two {l : List UInt8} {c d : UInt8} (h : Lib.hasPrefix l [c, d] = true) : ∃ t, l = c :: d :: t := by
  unfold Lib.hasPrefix at h
  match l, h with
  | [], h => simp [List.isPrefixOf] at h
  | [x], h => simp [List.isPrefixOf] at h
  | x :: y :: t, h =>
    simp [List.isPrefixOf] at h
    exact ⟨t, by rw [h.1, h.2]⟩
theorem pre_cons (c : UInt8) (t : List UInt8) (d : UInt8) : Lib.hasPrefix (c :: t) [d] = decide (d = c) := by
  unfold Lib.hasPrefix
  simp only [List.isPrefixOf]
  by_cases h : d = c <;> simp [h]
theorem pre_nil (d : UInt8) : Lib.hasPrefix [] [d] = false := rfl

theorem numB_fact (l : List UInt8) (k : Nat) (b : Int) (m : Nat) (hk : k ≤ l.length) (h0 : asc l k) (h : (numB l k b m).2 ≠ 0) :
    okN (numB l k b m).1 ∧ k < (numB l k b m).2 ∧ (numB l k b m).2 ≤ k + m ∧ (numB l k b m).2 ≤ l.length ∧ asc l (numB l k b m).2 := by
  unfold numB at h ⊢
  split
  · rename_i e; rw [if_pos e] at h; exact absurd rfl h
  · rename_i e
    have hl := digF_len m b 0 (l.drop k)
    rw [List.length_drop] at hl
    exact ⟨charB_ok _, by simp only; omega, by simp only; omega, by simp only; omega, asc_drop (digF_asc m b 0 _) h0⟩

theorem told_fact (l : List UInt8) (h : (toldB l).2 ≠ 0) : okN (toldB l).1 ∧ 2 ≤ (toldB l).2 ∧ (toldB l).2 ≤ 8 ∧ (toldB l).2 ≤ l.length ∧ asc l (toldB l).2 := by
  unfold toldB at h ⊢
  split
  · rename_i e
    rw [if_pos e] at h
    obtain ⟨t, rfl⟩ := pre_two e
    have := numB_fact _ 2 16 6 (by simp) (asc_cons (by decide) (asc_cons (by decide) (asc_zero _))) h
    exact ⟨this.1, by omega, by omega, this.2.2.2.1, this.2.2.2.2⟩
  · rename_i e0
    rw [if_neg e0] at h
    split
    · rename_i e
      rw [if_pos e] at h
      obtain ⟨t, rfl⟩ := pre_two e
      have := numB_fact _ 2 16 6 (by simp) (asc_cons (by decide) (asc_cons (by decide) (asc_zero _))) h
      exact ⟨this.1, by omega, by omega, this.2.2.2.1, this.2.2.2.2⟩
    · rename_i e1
      rw [if_neg e1] at h
      split
      · rename_i e
        rw [if_pos e] at h
        obtain ⟨t, rfl⟩ := pre_one e
        have := numB_fact _ 1 10 7 (by simp) (asc_cons (by decide) (asc_zero _)) h
        exact ⟨this.1, by omega, by omega, this.2.2.2.1, this.2.2.2.2⟩
      · rename_i e2
        rw [if_neg e2] at h
        cases hn : nameB (l.take (lowN l)) with
        | none => rw [hn] at h; exact absurd rfl h
        | some r =>
          have hf := name_fact _ _ hn
          have hl := lowN_le l
          rw [List.length_take] at hf
          exact ⟨okN_of hf.2.2, by simp only; omega, by simp only; omega, hl, asc_low l⟩

theorem one_fact (l : List UInt8) (h : (oneB l).2 ≠ 0) : okN (oneB l).1 ∧ 4 ≤ (oneB l).2 ∧ (oneB l).2 ≤ 10 ∧ (oneB l).2 ≤ l.length ∧ asc l (oneB l).2 := by
  unfold oneB at h ⊢
  split
  · rename_i e
    rw [if_pos e] at h
    obtain ⟨t, rfl⟩ := pre_one e
    rw [List.drop_succ_cons, List.drop_zero] at h ⊢
    split
    · rename_i e1; rw [if_pos e1] at h; exact absurd rfl h
    · rename_i e1
      rw [if_neg e1] at h
      split
      · rename_i e2
        have hf := told_fact t e1
        obtain ⟨q, hq⟩ := pre_one e2
        have hlen := congrArg List.length hq
        rw [List.length_drop] at hlen
        simp only [List.length_cons] at hlen
        refine ⟨hf.1, by simp only; omega, by simp only; omega, by simp only [List.length_cons]; omega, ?_⟩
        have ha := asc_cons (c := 38) (by decide) hf.2.2.2.2
        have hb : asc (38 :: t) ((toldB t).2 + 1 + 1) := by
          refine asc_drop (n := 1) ?_ ha
          rw [Nat.add_comm] at hq
          rw [hq]
          exact asc_cons (by decide) (asc_zero _)
        exact hb
      · rename_i e2; rw [if_neg e2] at h; exact absurd rfl h
  · rename_i e; rw [if_neg e] at h; exact absurd rfl h

/-! ### decoded -/
def decF : Nat → List UInt8 → List UInt8
  | 0, _ => []
  | _ + 1, [] => []
  | f + 1, c :: t => if c = 38 then (if (oneB (c :: t)).2 = 0 then 38 :: decF f t else Lib.encodeRune (oneB (c :: t)).1 ++ decF f ((c :: t).drop (oneB (c :: t)).2)) else c :: decF f t
/-- Bytes with their references told. -/
def decB (l : List UInt8) : List UInt8 := decF l.length l

theorem decF_fuel : ∀ (f g : Nat) (l : List UInt8), l.length ≤ f → l.length ≤ g → decF f l = decF g l
  | 0, 0, l, _, _ => rfl
  | 0, g + 1, [], _, _ => rfl
  | 0, g + 1, c :: t, h, _ => by simp at h
  | f + 1, 0, [], _, _ => rfl
  | f + 1, 0, c :: t, _, h => by simp at h
  | f + 1, g + 1, [], _, _ => rfl
  | f + 1, g + 1, c :: t, hf, hg => by
    simp only [List.length_cons] at hf hg
    unfold decF
    rw [decF_fuel f g t (by omega) (by omega)]
    by_cases h1 : (oneB (c :: t)).2 = 0
    · rw [if_pos h1, if_pos h1]
    · rw [if_neg h1, if_neg h1, decF_fuel f g ((c :: t).drop (oneB (c :: t)).2) (by rw [List.length_drop, List.length_cons]; omega) (by rw [List.length_drop, List.length_cons]; omega)]

theorem decB_nil : decB [] = [] := rfl
theorem decB_cons (c : UInt8) (t : List UInt8) : decB (c :: t) = if c = 38 then (if (oneB (c :: t)).2 = 0 then 38 :: decB t else Lib.encodeRune (oneB (c :: t)).1 ++ decB ((c :: t).drop (oneB (c :: t)).2)) else c :: decB t := by
  unfold decB
  show decF (t.length + 1) (c :: t) = _
  conv => lhs; unfold decF
  by_cases h1 : (oneB (c :: t)).2 = 0
  · rw [if_pos h1, if_pos h1]
  · rw [if_neg h1, if_neg h1, decF_fuel t.length _ ((c :: t).drop (oneB (c :: t)).2) (by rw [List.length_drop, List.length_cons]; omega) (Nat.le_refl _)]

/-- Bytes without & stay. -/
theorem decB_skip : ∀ (p t : List UInt8), (∀ c ∈ p, c ≠ 38) → decB (p ++ t) = p ++ decB t
  | [], t, _ => rfl
  | c :: p, t, h => by
    rw [List.cons_append, decB_cons, if_neg (h c (by simp)), decB_skip p t (fun x hx => h x (by simp [hx]))]
    rfl
theorem decB_none {l : List UInt8} (h : ∀ c ∈ l, c ≠ 38) : decB l = l := by
  have := decB_skip l [] h
  simpa [decB_nil] using this
theorem decB_ref {t : List UInt8} (h : (oneB (38 :: t)).2 ≠ 0) : decB (38 :: t) = Lib.encodeRune (oneB (38 :: t)).1 ++ decB ((38 :: t).drop (oneB (38 :: t)).2) := by
  rw [decB_cons, if_pos rfl, if_neg h]
theorem decB_amp {t : List UInt8} (h : (oneB (38 :: t)).2 = 0) : decB (38 :: t) = 38 :: decB t := by
  rw [decB_cons, if_pos rfl, if_pos h]

theorem encodeRune_le (r : Int) : 1 ≤ (Lib.encodeRune r).length ∧ (Lib.encodeRune r).length ≤ 4 := by
  have := Lib.encodeRuneZ_length r
  simpa [Lib.encodeRune] using this

theorem decB_len : ∀ (n : Nat) (l : List UInt8), l.length ≤ n → (decB l).length ≤ l.length
  | 0, l, h => by
    have : l = [] := List.eq_nil_of_length_eq_zero (by omega)
    subst this
    simp [decB_nil]
  | n + 1, [], h => by simp [decB_nil]
  | n + 1, c :: t, h => by
    simp only [List.length_cons] at h
    rw [decB_cons]
    split
    · split
      · have := decB_len n t (by omega)
        simp only [List.length_cons]
        omega
      · rename_i h1
        have hf := one_fact _ h1
        have he := encodeRune_le (oneB (c :: t)).1
        have := decB_len n ((c :: t).drop (oneB (c :: t)).2) (by rw [List.length_drop, List.length_cons]; omega)
        rw [List.length_drop] at this
        simp only [List.length_append]
        omega
    · have := decB_len n t (by omega)
      simp only [List.length_cons]
      omega

/-! ### written -/
theorem take_snoc' {l : List UInt8} {k : Nat} {c : UInt8} (h : l[k]? = some c) : l.take (k + 1) = l.take k ++ [c] := by rw [List.take_add_one, h]; rfl

/-- What a byte is written as. -/
def wrB (v : Bool) (c : UInt8) : List UInt8 :=
  if c = 38 then [38, 97, 109, 112, 59] else if c = 60 then [38, 108, 116, 59] else if c = 62 then [38, 103, 116, 59] else if c = 34 ∧ v = true then [38, 113, 117, 111, 116, 59] else []
def wrC (v : Bool) (c : UInt8) : List UInt8 := if wrB v c = [] then [c] else wrB v c
/-- Bytes, written. -/
def escB (v : Bool) (l : List UInt8) : List UInt8 := l.flatMap (wrC v)

theorem wrC_same {v : Bool} {c : UInt8} (h : wrB v c = []) : wrC v c = [c] := by unfold wrC; rw [if_pos h]
theorem wrC_other {v : Bool} {c : UInt8} (h : wrB v c ≠ []) : wrC v c = wrB v c := by unfold wrC; rw [if_neg h]

theorem escB_nil (v : Bool) : escB v [] = [] := rfl
theorem escB_cons (v : Bool) (c : UInt8) (t : List UInt8) : escB v (c :: t) = wrC v c ++ escB v t := by simp [escB]
theorem escB_append (v : Bool) (a b : List UInt8) : escB v (a ++ b) = escB v a ++ escB v b := by simp [escB]

theorem wrB_len (v : Bool) (c : UInt8) : (wrB v c).length ≤ 6 := by
  unfold wrB
  repeat' split
  all_goals simp
theorem wrC_len (v : Bool) (c : UInt8) : 1 ≤ (wrC v c).length ∧ (wrC v c).length ≤ 6 := by
  have := wrB_len v c
  unfold wrC
  split
  · simp
  · rename_i h
    have : (wrB v c).length ≠ 0 := fun e => h (List.eq_nil_of_length_eq_zero e)
    omega
theorem escB_len (v : Bool) : ∀ l : List UInt8, l.length ≤ (escB v l).length ∧ (escB v l).length ≤ 6 * l.length
  | [] => by simp [escB_nil]
  | c :: t => by
    have := wrC_len v c
    have := escB_len v t
    rw [escB_cons, List.length_append, List.length_cons]
    omega

theorem one_amp (t : List UInt8) : oneB (38 :: 97 :: 109 :: 112 :: 59 :: t) = (38, 5) := rfl
theorem one_lt (t : List UInt8) : oneB (38 :: 108 :: 116 :: 59 :: t) = (60, 4) := rfl
theorem one_gt (t : List UInt8) : oneB (38 :: 103 :: 116 :: 59 :: t) = (62, 4) := rfl
theorem one_quot (t : List UInt8) : oneB (38 :: 113 :: 117 :: 111 :: 116 :: 59 :: t) = (34, 6) := rfl

theorem dec_wr (v : Bool) (c : UInt8) (t : List UInt8) : decB (wrC v c ++ t) = c :: decB t := by
  unfold wrC wrB
  by_cases h1 : c = 38
  · subst h1
    rw [if_pos rfl, if_neg (by simp)]
    show decB (38 :: 97 :: 109 :: 112 :: 59 :: t) = _
    rw [decB_ref (by rw [one_amp]; simp), one_amp]
    rfl
  rw [if_neg h1]
  by_cases h2 : c = 60
  · subst h2
    rw [if_pos rfl, if_neg (by simp)]
    show decB (38 :: 108 :: 116 :: 59 :: t) = _
    rw [decB_ref (by rw [one_lt]; simp), one_lt]
    rfl
  rw [if_neg h2]
  by_cases h3 : c = 62
  · subst h3
    rw [if_pos rfl, if_neg (by simp)]
    show decB (38 :: 103 :: 116 :: 59 :: t) = _
    rw [decB_ref (by rw [one_gt]; simp), one_gt]
    rfl
  rw [if_neg h3]
  by_cases h4 : c = 34 ∧ v = true
  · rw [if_pos h4]
    obtain ⟨rfl, rfl⟩ := h4
    rw [if_neg (by simp)]
    show decB (38 :: 113 :: 117 :: 111 :: 116 :: 59 :: t) = _
    rw [decB_ref (by rw [one_quot]; simp), one_quot]
    rfl
  rw [if_neg h4, if_pos rfl]
  show decB (c :: t) = _
  rw [decB_cons, if_neg h1]

theorem dec_esc (v : Bool) : ∀ l : List UInt8, decB (escB v l) = l
  | [] => rfl
  | c :: t => by rw [escB_cons, dec_wr, dec_esc v t]

/-- Of what is written no byte is <, >, or (in a value) a quote. -/
theorem wr_bare (x : UInt8) : ∀ c ∈ wrC true x, c ≠ 60 ∧ c ≠ 62 ∧ c ≠ 34 := by
  unfold wrC
  by_cases h1 : x = 38
  · subst h1; decide
  by_cases h2 : x = 60
  · subst h2; decide
  by_cases h3 : x = 62
  · subst h3; decide
  by_cases h4 : x = 34
  · subst h4; decide
  have e : wrB true x = [] := by
    unfold wrB
    rw [if_neg h1, if_neg h2, if_neg h3, if_neg (fun h => h4 h.1)]
  rw [if_pos e]
  intro c hc
  simp at hc
  subst hc
  exact ⟨h2, h3, h4⟩
theorem esc_bare (l : List UInt8) : ∀ c ∈ escB true l, c ≠ 60 ∧ c ≠ 62 ∧ c ≠ 34 := by
  intro c hc
  unfold escB at hc
  obtain ⟨x, _, hx⟩ := List.mem_flatMap.1 hc
  exact wr_bare x c hx

/-! ### right texts -/
theorem enc_one {r : Int} (h0 : 0 ≤ r) (h1 : r ≤ 127) : Lib.encodeRune r = [r.toNat.toUInt8] := by unfold Lib.encodeRune; rw [Lib.encodeRuneZ_one h0 h1]; rfl

theorem enc_high {r : Int} (h0 : okR r) (h1 : 127 < r) : ∀ c ∈ Lib.encodeRune r, 128 ≤ c.toNat := by
  intro c hc
  unfold Lib.encodeRune at hc
  obtain ⟨x, hx, rfl⟩ := List.mem_map.1 hc
  have hb := Lib.encodeRuneZ_byte r x hx
  have : 128 ≤ x := by
    unfold okR at h0
    unfold Lib.encodeRuneZ at hx
    repeat' split at hx
    all_goals simp at hx
    all_goals omega
  simp
  omega

theorem enc_drop : ∀ (n : Nat) (L : List Int), (∀ r ∈ L, okR r) → asc (enc L) n → n ≤ (enc L).length → (enc L).drop n = enc (L.drop n)
  | 0, L, _, _, _ => rfl
  | n + 1, [], _, _, h => by simp [enc_nil] at h
  | n + 1, r :: L, hok, ha, hn => by
    have hr := hok r (by simp)
    have h0 : 0 ≤ r := by unfold okR at hr; omega
    by_cases h1 : r ≤ 127
    · rw [enc_cons, enc_one h0 h1] at ha hn ⊢
      simp only [List.cons_append, List.nil_append, List.length_cons] at ha hn ⊢
      rw [List.drop_succ_cons, List.drop_succ_cons]
      refine enc_drop n L (fun x hx => hok x (by simp [hx])) (fun j hj => ?_) (by omega)
      exact ha (j + 1) (by omega)
    · exfalso
      have hh := enc_high hr (by omega)
      have hl := encodeRune_le r
      rw [enc_cons] at ha
      have := ha 0 (by omega)
      cases he : Lib.encodeRune r with
      | nil => rw [he] at hl; simp at hl
      | cons c t =>
        rw [he] at this hh
        have h2 := hh c (by simp)
        have e : byt (c :: t ++ enc L) 0 = c.toNat := rfl
        omega

theorem dec_right : ∀ (n : Nat) (L : List Int), L.length ≤ n → (∀ r ∈ L, okN r) → ∃ L', (∀ r ∈ L', okN r) ∧ decB (enc L) = enc L'
  | 0, L, h, _ => by
    have : L = [] := List.eq_nil_of_length_eq_zero (by omega)
    subst this
    exact ⟨[], by simp, rfl⟩
  | n + 1, [], h, _ => ⟨[], by simp, rfl⟩
  | n + 1, r :: L, h, hok => by
    simp only [List.length_cons] at h
    have hr := hok r (by simp)
    have hL : ∀ x ∈ L, okN x := fun x hx => hok x (by simp [hx])
    have h0 : 0 ≤ r := by have := hr.1; unfold okR at this; omega
    obtain ⟨L1, ok1, e1⟩ := dec_right n L (by omega) hL
    have hcons : decB (enc (r :: L)) = Lib.encodeRune r ++ decB (enc L) → ∃ L', (∀ r ∈ L', okN r) ∧ decB (enc (r :: L)) = enc L' := by
      intro e
      refine ⟨r :: L1, ?_, by rw [e, e1, enc_cons]⟩
      intro x hx
      rcases List.mem_cons.1 hx with rfl | hx
      · exact hr
      · exact ok1 x hx
    by_cases h1 : r ≤ 127
    · have ee := enc_one h0 h1
      by_cases h38 : r = 38
      · subst h38
        have e38 : enc (38 :: L) = 38 :: enc L := by rw [enc_cons, ee]; rfl
        by_cases ho : (oneB (38 :: enc L)).2 = 0
        · exact hcons (by rw [e38, decB_amp ho, ee]; rfl)
        · have hf := one_fact _ ho
          rw [← e38] at hf
          have hd := enc_drop _ _ (fun x hx => (hok x hx).1) hf.2.2.2.2 hf.2.2.2.1
          obtain ⟨L2, ok2, e2⟩ := dec_right n ((38 :: L).drop (oneB (enc (38 :: L))).2) (by rw [List.length_drop, List.length_cons]; omega) (fun x hx => hok x (List.mem_of_mem_drop hx))
          refine ⟨(oneB (enc (38 :: L))).1 :: L2, ?_, ?_⟩
          · intro x hx
            rcases List.mem_cons.1 hx with rfl | hx
            · exact hf.1
            · exact ok2 x hx
          · rw [e38, decB_ref ho, ← e38, hd, e2]
            exact (enc_cons _ _).symm
      · refine hcons ?_
        rw [enc_cons, ee]
        refine decB_skip _ _ ?_
        intro c hc
        simp at hc
        subst hc
        intro e
        have := congrArg UInt8.toNat e
        simp at this
        omega
    · refine hcons ?_
      rw [enc_cons]
      refine decB_skip _ _ ?_
      intro c hc e
      have := enc_high hr.1 (by omega) c hc
      rw [e] at this
      simp at this

theorem wr_high {v : Bool} {c : UInt8} (h : 128 ≤ c.toNat) : wrC v c = [c] := by
  have h1 : c ≠ 38 := by rintro rfl; simp at h
  have h2 : c ≠ 60 := by rintro rfl; simp at h
  have h3 : c ≠ 62 := by rintro rfl; simp at h
  have h4 : ¬ (c = 34 ∧ v = true) := by rintro ⟨rfl, _⟩; simp at h
  unfold wrC wrB
  rw [if_neg h1, if_neg h2, if_neg h3, if_neg h4, if_pos rfl]

theorem esc_high (v : Bool) : ∀ l : List UInt8, (∀ c ∈ l, 128 ≤ c.toNat) → escB v l = l
  | [], _ => rfl
  | c :: t, h => by rw [escB_cons, wr_high (h c (by simp)), esc_high v t (fun x hx => h x (by simp [hx]))]; rfl

theorem wr_right (v : Bool) {r : Int} (hr : okN r) (h1 : r ≤ 127) : ∃ L', (∀ x ∈ L', okN x) ∧ escB v (Lib.encodeRune r) = enc L' := by
  have h0 : 0 ≤ r := by have := hr.1; unfold okR at this; omega
  have ee := enc_one h0 h1
  have e2 : escB v (Lib.encodeRune r) = wrC v r.toNat.toUInt8 := by rw [ee, escB_cons, escB_nil, List.append_nil]
  rw [e2]
  by_cases hw : wrB v r.toNat.toUInt8 = []
  · refine ⟨[r], by intro x hx; simp at hx; subst hx; exact hr, ?_⟩
    unfold wrC
    rw [if_pos hw, enc_cons, enc_nil, List.append_nil, ee]
  · unfold wrC
    rw [if_neg hw]
    unfold wrB at hw ⊢
    split
    · exact ⟨[38, 97, 109, 112, 59], by intro x hx; exact okN_of (by simp at hx; rcases hx with rfl | rfl | rfl | rfl | rfl <;> decide), rfl⟩
    split
    · exact ⟨[38, 108, 116, 59], by intro x hx; exact okN_of (by simp at hx; rcases hx with rfl | rfl | rfl | rfl <;> decide), rfl⟩
    split
    · exact ⟨[38, 103, 116, 59], by intro x hx; exact okN_of (by simp at hx; rcases hx with rfl | rfl | rfl | rfl <;> decide), rfl⟩
    split
    · exact ⟨[38, 113, 117, 111, 116, 59], by intro x hx; exact okN_of (by simp at hx; rcases hx with rfl | rfl | rfl | rfl | rfl | rfl <;> decide), rfl⟩
    · exact ⟨[], by simp, rfl⟩

theorem esc_right (v : Bool) : ∀ L : List Int, (∀ r ∈ L, okN r) → ∃ L', (∀ r ∈ L', okN r) ∧ escB v (enc L) = enc L'
  | [], _ => ⟨[], by simp, rfl⟩
  | r :: L, hok => by
    have hr := hok r (by simp)
    obtain ⟨L1, ok1, e1⟩ := esc_right v L (fun x hx => hok x (by simp [hx]))
    obtain ⟨L2, ok2, e2⟩ : ∃ L2, (∀ x ∈ L2, okN x) ∧ escB v (Lib.encodeRune r) = enc L2 := by
      by_cases h1 : r ≤ 127
      · exact wr_right v hr h1
      · exact ⟨[r], by intro x hx; simp at hx; subst hx; exact hr, by rw [esc_high v _ (enc_high hr.1 (by omega)), enc_cons, enc_nil, List.append_nil]⟩
    refine ⟨L2 ++ L1, ?_, by rw [enc_cons, escB_append, e1, e2, enc_append]⟩
    intro x hx
    rcases List.mem_append.1 hx with h | h
    · exact ok2 x h
    · exact ok1 x h

/-! ### digits of a number -/
/-- The number of digits, from a on. -/
def valB (b a : Int) (l : List UInt8) : Int := l.foldl (fun x c => x * b + digR c.toNat) a

theorem digF_val : ∀ (T : List UInt8) (m : Nat) (b a : Int) (t : List UInt8), (∀ c ∈ T, 0 ≤ digR c.toNat ∧ digR c.toNat < b) → T.length ≤ m → (∀ c q, t = c :: q → digR c.toNat < 0) →
    digF m b a (T ++ t) = (valB b a T, T.length)
  | [], 0, b, a, t, _, _, _ => rfl
  | [], m + 1, b, a, [], _, _, _ => rfl
  | [], m + 1, b, a, c :: q, _, _, ht => by
    show digF (m + 1) b a (c :: q) = _
    unfold digF
    rw [if_pos (Or.inl (ht c q rfl))]
    rfl
  | c :: T, 0, b, a, t, _, h, _ => by simp at h
  | c :: T, m + 1, b, a, t, hT, h, ht => by
    have hc := hT c (by simp)
    show digF (m + 1) b a (c :: (T ++ t)) = _
    unfold digF
    rw [if_neg (by omega), digF_val T m b _ t (fun x hx => hT x (by simp [hx])) (by simpa using h) ht]
    rfl

theorem pre_two_no {c d x y : UInt8} {t : List UInt8} (h : d ≠ y) : Lib.hasPrefix (x :: y :: t) [c, d] = false := by
  unfold Lib.hasPrefix
  simp only [List.isPrefixOf]
  simp [h]

theorem one_num {r : Int} {n : Nat} {u : List UInt8} (ht : toldB u = (r, n)) (hn : n ≠ 0) (hu : Lib.hasPrefix (u.drop n) [59] = true) : oneB (38 :: u) = (r, n + 2) := by
  unfold oneB
  rw [if_pos (by rw [pre_cons]; rfl), List.drop_succ_cons, List.drop_zero, ht]
  simp only
  rw [if_neg hn, show 1 + n = n + 1 by omega, List.drop_succ_cons, if_pos hu]

theorem one_tens {T : List UInt8} {n : Int} (hT : ∀ c ∈ T, 48 ≤ c.toNat ∧ c.toNat ≤ 57) (h0 : T ≠ []) (h7 : T.length ≤ 7) (hv : valB 10 0 T = n) (hok : okN n) :
    oneB (38 :: 35 :: (T ++ [59, 120])) = (n, T.length + 3) := by
  have hd : ∀ c ∈ T, 0 ≤ digR c.toNat ∧ digR c.toNat < 10 := by
    intro c hc
    have := hT c hc
    unfold digR
    rw [if_pos (by omega)]
    omega
  have hF := digF_val T 7 10 0 [59, 120] hd h7 (by intro c q h; cases h; decide)
  obtain ⟨c, T', rfl⟩ : ∃ c T', T = c :: T' := by cases T with | nil => exact absurd rfl h0 | cons c t => exact ⟨c, t, rfl⟩
  have hc := hT c (by simp)
  have ht : toldB (35 :: (c :: T' ++ [59, 120])) = (n, (c :: T').length + 1) := by
    unfold toldB
    have p1 : Lib.hasPrefix (35 :: (c :: T' ++ [59, 120])) [35, 120] = false := pre_two_no (by rintro rfl; simp at hc)
    have p2 : Lib.hasPrefix (35 :: (c :: T' ++ [59, 120])) [35, 88] = false := pre_two_no (by rintro rfl; simp at hc)
    rw [if_neg (by rw [p1]; simp), if_neg (by rw [p2]; simp), if_pos (by rw [pre_cons]; rfl)]
    unfold numB
    rw [List.drop_succ_cons, List.drop_zero, hF, hv]
    simp only
    rw [if_neg (by simp)]
    unfold charB
    rw [if_neg (by unfold okN okR at hok; omega), Nat.add_comm]
  have := one_num ht (by omega) (by rw [List.drop_succ_cons, List.drop_left]; rfl)
  rw [this]

theorem one_sixteens {T : List UInt8} {n : Int} (hT : ∀ c ∈ T, 0 ≤ digR c.toNat) (h0 : T ≠ []) (h6 : T.length ≤ 6) (hv : valB 16 0 T = n) (hok : okN n) :
    oneB (38 :: 35 :: 120 :: (T ++ [59, 120])) = (n, T.length + 4) := by
  have hd : ∀ c ∈ T, 0 ≤ digR c.toNat ∧ digR c.toNat < 16 := by
    intro c hc
    have := hT c hc
    have := digR_bd c.toNat
    omega
  have hF := digF_val T 6 16 0 [59, 120] hd h6 (by intro c q h; cases h; decide)
  have hl : T.length ≠ 0 := fun e => h0 (List.eq_nil_of_length_eq_zero e)
  have ht : toldB (35 :: 120 :: (T ++ [59, 120])) = (n, T.length + 2) := by
    unfold toldB
    have p1 : Lib.hasPrefix (35 :: 120 :: (T ++ [59, 120])) [35, 120] = true := by
      unfold Lib.hasPrefix
      simp [List.isPrefixOf]
    rw [if_pos p1]
    unfold numB
    rw [List.drop_succ_cons, List.drop_succ_cons, List.drop_zero, hF, hv]
    simp only
    rw [if_neg hl]
    unfold charB
    rw [if_neg (by unfold okN okR at hok; omega), Nat.add_comm]
  have := one_num ht (by omega) (by rw [List.drop_succ_cons, List.drop_succ_cons, List.drop_left]; rfl)
  rw [this]

end Go.Proofs.Ytenjhfkdbmljnaa
