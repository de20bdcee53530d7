/- Plain facts on the characters of bytes: no program in it. -/
import Derived.Lib.RuneBytes
import Derived.Lib.RuneCount
namespace Go.Proofs.Ytenjhfkdbmljnaa
set_option linter.unusedVariables false

/-- The k-th byte, or 0. -/
def byt (l : List UInt8) (k : Nat) : Nat := (l.getD k 0).toNat
/-- Is there a k-th byte, and does it go on? -/
def cont (l : List UInt8) (k : Nat) : Bool := decide (k < l.length) && byt l k / 64 == 2

/-- The character with which bytes begin, and how many bytes it has. -/
def dec (l : List UInt8) : Nat × Nat :=
  if byt l 0 < 128 then (byt l 0, 1)
  else if byt l 0 / 32 = 6 ∧ cont l 1 = true then
    if 128 ≤ byt l 0 % 32 * 64 + byt l 1 % 64 then (byt l 0 % 32 * 64 + byt l 1 % 64, 2) else (65533, 1)
  else if byt l 0 / 16 = 14 ∧ cont l 1 = true ∧ cont l 2 = true then
    if 2048 ≤ byt l 0 % 16 * 4096 + byt l 1 % 64 * 64 + byt l 2 % 64 ∧ ¬ (55296 ≤ byt l 0 % 16 * 4096 + byt l 1 % 64 * 64 + byt l 2 % 64 ∧ byt l 0 % 16 * 4096 + byt l 1 % 64 * 64 + byt l 2 % 64 ≤ 57343) then (byt l 0 % 16 * 4096 + byt l 1 % 64 * 64 + byt l 2 % 64, 3) else (65533, 1)
  else if byt l 0 / 8 = 30 ∧ cont l 1 = true ∧ cont l 2 = true ∧ cont l 3 = true then
    if 65536 ≤ byt l 0 % 8 * 262144 + byt l 1 % 64 * 4096 + byt l 2 % 64 * 64 + byt l 3 % 64 ∧ byt l 0 % 8 * 262144 + byt l 1 % 64 * 4096 + byt l 2 % 64 * 64 + byt l 3 % 64 ≤ 1114111 then (byt l 0 % 8 * 262144 + byt l 1 % 64 * 4096 + byt l 2 % 64 * 64 + byt l 3 % 64, 4) else (65533, 1)
  else (65533, 1)

theorem byt_lt (l : List UInt8) (k : Nat) : byt l k < 256 := by unfold byt; exact UInt8.toNat_lt _

theorem get_byt (s : ByteArray) (i k : Nat) : (s.get! (i + k)).toNat = byt (s.data.toList.drop i) k := by
  unfold byt
  have h : s.get! (i + k) = s.data[i + k]! := rfl
  rw [h, List.getD_eq_getElem?_getD, List.getElem?_drop, Array.getElem?_toList]
  rw [getElem!_def]
  cases s.data[i + k]? <;> rfl

theorem cont_eq (s : ByteArray) (i k : Nat) : (decide (i + k < s.size) && byt (s.data.toList.drop i) k / 64 == 2) = cont (s.data.toList.drop i) k := by
  unfold cont
  congr 1
  rw [decide_eq_decide, List.length_drop]
  have : s.data.toList.length = s.size := by simp
  omega

theorem valid_nat (c : Nat) : Utf8.valid (c : Int) = decide (c < 55296 ∨ (57344 ≤ c ∧ c ≤ 1114111)) := by
  unfold Utf8.valid
  rw [Bool.eq_iff_iff]
  simp
  omega

theorem decode_dec (s : ByteArray) (i : Nat) : Utf8.decode s i = dec (s.data.toList.drop i) := by
  have g0 := get_byt s i 0
  have g1 := get_byt s i 1
  have g2 := get_byt s i 2
  have g3 := get_byt s i 3
  have c1 := cont_eq s i 1
  have c2 := cont_eq s i 2
  have c3 := cont_eq s i 3
  have b0 := byt_lt (s.data.toList.drop i) 0
  have b1 := byt_lt (s.data.toList.drop i) 1
  have b2 := byt_lt (s.data.toList.drop i) 2
  have b3 := byt_lt (s.data.toList.drop i) 3
  unfold Utf8.decode dec
  simp only [g0, g1, g2, g3, valid_nat, Utf8.runeError, ge_iff_le]
  simp only [c1, c2, c3]
  simp only [Bool.and_eq_true, beq_iff_eq, decide_eq_true_eq]
  generalize byt (s.data.toList.drop i) 0 = x0 at *
  generalize byt (s.data.toList.drop i) 1 = x1 at *
  generalize byt (s.data.toList.drop i) 2 = x2 at *
  generalize byt (s.data.toList.drop i) 3 = x3 at *
  generalize cont (s.data.toList.drop i) 1 = k1 at *
  generalize cont (s.data.toList.drop i) 2 = k2 at *
  generalize cont (s.data.toList.drop i) 3 = k3 at *
  by_cases h0 : x0 < 128
  · rw [if_pos h0, if_pos h0]
  rw [if_neg h0, if_neg h0]
  by_cases h1 : x0 / 32 = 6 ∧ k1 = true
  · rw [if_pos h1, if_pos h1]
  rw [if_neg h1, if_neg h1]
  by_cases h2 : x0 / 16 = 14 ∧ k1 = true ∧ k2 = true
  · rw [if_pos ⟨⟨h2.1, h2.2.1⟩, h2.2.2⟩, if_pos h2]
    by_cases h : 2048 ≤ x0 % 16 * 4096 + x1 % 64 * 64 + x2 % 64 ∧ ¬ (55296 ≤ x0 % 16 * 4096 + x1 % 64 * 64 + x2 % 64 ∧ x0 % 16 * 4096 + x1 % 64 * 64 + x2 % 64 ≤ 57343)
    · rw [if_pos h, if_pos (by omega)]
    · rw [if_neg h, if_neg (by omega)]
  rw [if_neg (fun h => h2 ⟨h.1.1, h.1.2, h.2⟩), if_neg h2]
  by_cases h3 : x0 / 8 = 30 ∧ k1 = true ∧ k2 = true ∧ k3 = true
  · rw [if_pos ⟨⟨⟨h3.1, h3.2.1⟩, h3.2.2.1⟩, h3.2.2.2⟩, if_pos h3]
    by_cases h : 65536 ≤ x0 % 8 * 262144 + x1 % 64 * 4096 + x2 % 64 * 64 + x3 % 64 ∧ x0 % 8 * 262144 + x1 % 64 * 4096 + x2 % 64 * 64 + x3 % 64 ≤ 1114111
    · rw [if_pos h, if_pos (by omega)]
    · rw [if_neg h, if_neg (by omega)]
  rw [if_neg (fun h => h3 ⟨h.1.1.1, h.1.1.2, h.1.2, h.2⟩), if_neg h3]

/-- May a number be a character? -/
def okR (r : Int) : Prop := (0 ≤ r ∧ r < 55296) ∨ (57343 < r ∧ r ≤ 1114111)

theorem byt_len {l : List UInt8} {k : Nat} (h : cont l k = true) : k < l.length := by
  unfold cont at h
  simp at h
  exact h.1

theorem dec_width {l : List UInt8} (h : 0 < l.length) : 1 ≤ (dec l).2 ∧ (dec l).2 ≤ l.length := by
  unfold dec
  split
  · exact ⟨by simp, by simp; omega⟩
  split
  · rename_i h1
    have := byt_len h1.2
    split
    · exact ⟨by simp, by simp; omega⟩
    · exact ⟨by simp, by simp; omega⟩
  split
  · rename_i h1
    have := byt_len h1.2.2
    split
    · exact ⟨by simp, by simp; omega⟩
    · exact ⟨by simp, by simp; omega⟩
  split
  · rename_i h1
    have := byt_len h1.2.2.2
    split
    · exact ⟨by simp, by simp; omega⟩
    · exact ⟨by simp, by simp; omega⟩
  exact ⟨by simp, by simp; omega⟩

theorem dec_ok (l : List UInt8) : okR (dec l).1 := by
  have b0 := byt_lt l 0
  have b1 := byt_lt l 1
  unfold dec okR
  split
  · simp; omega
  split
  · split
    · simp; omega
    · simp
  split
  · split
    · simp; omega
    · simp
  split
  · split
    · simp; omega
    · simp
  simp

/-- The characters of bytes, at most so many. -/
def runesF : Nat → List UInt8 → List Int
  | 0, _ => []
  | f + 1, l => if l.length = 0 then [] else ((dec l).1 : Int) :: runesF f (l.drop (dec l).2)
/-- The characters of bytes. -/
def runes (l : List UInt8) : List Int := runesF l.length l

theorem runesF_fuel : ∀ (f g : Nat) (l : List UInt8), l.length ≤ f → l.length ≤ g → runesF f l = runesF g l
  | 0, 0, l, _, _ => rfl
  | 0, g + 1, l, h, _ => by
    have : l.length = 0 := by omega
    simp [runesF, this]
  | f + 1, 0, l, _, h => by
    have : l.length = 0 := by omega
    simp [runesF, this]
  | f + 1, g + 1, l, hf, hg => by
    unfold runesF
    by_cases h0 : l.length = 0
    · rw [if_pos h0, if_pos h0]
    · have hw := dec_width (l := l) (by omega)
      rw [if_neg h0, if_neg h0, runesF_fuel f g _ (by rw [List.length_drop]; omega) (by rw [List.length_drop]; omega)]

theorem runes_nil : runes [] = [] := rfl
theorem runes_step {l : List UInt8} (h : 0 < l.length) : runes l = ((dec l).1 : Int) :: runes (l.drop (dec l).2) := by
  have hw := dec_width h
  obtain ⟨m, hm⟩ : ∃ m, l.length = m + 1 := ⟨l.length - 1, by omega⟩
  unfold runes
  rw [hm]
  conv => lhs; unfold runesF
  rw [if_neg (by omega), runesF_fuel m _ _ (by rw [List.length_drop]; omega) (Nat.le_refl _)]

theorem runes_ok : ∀ (n : Nat) (l : List UInt8), l.length ≤ n → ∀ r ∈ runes l, okR r
  | 0, l, h => by
    have : l = [] := List.eq_nil_of_length_eq_zero (by omega)
    subst this
    intro r hr
    cases hr
  | n + 1, l, h => by
    intro r hr
    by_cases h0 : l.length = 0
    · have : l = [] := List.eq_nil_of_length_eq_zero h0
      subst this
      cases hr
    · have hw := dec_width (l := l) (by omega)
      rw [runes_step (by omega)] at hr
      rcases List.mem_cons.1 hr with rfl | hr
      · exact dec_ok l
      · exact runes_ok n _ (by rw [List.length_drop]; omega) r hr

theorem runes_len : ∀ (n : Nat) (l : List UInt8), l.length ≤ n → (runes l).length ≤ l.length
  | 0, l, h => by
    have : l = [] := List.eq_nil_of_length_eq_zero (by omega)
    subst this
    simp [runes_nil]
  | n + 1, l, h => by
    by_cases h0 : l.length = 0
    · have : l = [] := List.eq_nil_of_length_eq_zero h0
      subst this
      simp [runes_nil]
    · have hw := dec_width (l := l) (by omega)
      rw [runes_step (by omega)]
      have := runes_len n (l.drop (dec l).2) (by rw [List.length_drop]; omega)
      rw [List.length_drop] at this
      simp
      omega

/-- The bytes of characters. -/
def enc (l : List Int) : List UInt8 := l.flatMap Lib.encodeRune

theorem enc_nil : enc [] = [] := rfl
theorem enc_cons (r : Int) (l : List Int) : enc (r :: l) = Lib.encodeRune r ++ enc l := by simp [enc]
theorem enc_append (a b : List Int) : enc (a ++ b) = enc a ++ enc b := by simp [enc]

theorem dec_enc {r : Int} (h : okR r) (t : List UInt8) : dec (Lib.encodeRune r ++ t) = (r.toNat, (Lib.encodeRune r).length) := by
  unfold okR at h
  have hb : ∀ x : Int, 0 ≤ x → x < 256 → x.toNat.toUInt8.toNat = x.toNat := by
    intro x h0 h1
    simp
    omega
  by_cases h1 : r ≤ 127
  · have e : Lib.encodeRune r = [r.toNat.toUInt8] := by unfold Lib.encodeRune; rw [Lib.encodeRuneZ_one (by omega) h1]; rfl
    rw [e]
    have b0 : byt ([r.toNat.toUInt8] ++ t) 0 = r.toNat := by
      show r.toNat.toUInt8.toNat = _
      exact hb r (by omega) (by omega)
    unfold dec
    rw [b0, if_pos (by omega)]
    rfl
  by_cases h2 : r ≤ 2047
  · have e : Lib.encodeRune r = [(192 + r / 64).toNat.toUInt8, (128 + r % 64).toNat.toUInt8] := by unfold Lib.encodeRune; rw [Lib.encodeRuneZ_two (by omega) h2]; rfl
    rw [e]
    have b0 : byt ([(192 + r / 64).toNat.toUInt8, (128 + r % 64).toNat.toUInt8] ++ t) 0 = (192 + r / 64).toNat := hb _ (by omega) (by omega)
    have b1 : byt ([(192 + r / 64).toNat.toUInt8, (128 + r % 64).toNat.toUInt8] ++ t) 1 = (128 + r % 64).toNat := hb _ (by omega) (by omega)
    have c1 : cont ([(192 + r / 64).toNat.toUInt8, (128 + r % 64).toNat.toUInt8] ++ t) 1 = true := by
      unfold cont
      rw [b1]
      simp
      omega
    unfold dec
    rw [b0, b1, c1, if_neg (by omega), if_pos ⟨by omega, rfl⟩, if_pos (by omega)]
    simp
    omega
  by_cases h3 : r ≤ 65535
  · have e : Lib.encodeRune r = [(224 + r / 4096).toNat.toUInt8, (128 + r / 64 % 64).toNat.toUInt8, (128 + r % 64).toNat.toUInt8] := by unfold Lib.encodeRune; rw [Lib.encodeRuneZ_three (by omega)]; rfl
    rw [e]
    have b0 : byt ([(224 + r / 4096).toNat.toUInt8, (128 + r / 64 % 64).toNat.toUInt8, (128 + r % 64).toNat.toUInt8] ++ t) 0 = (224 + r / 4096).toNat := hb _ (by omega) (by omega)
    have b1 : byt ([(224 + r / 4096).toNat.toUInt8, (128 + r / 64 % 64).toNat.toUInt8, (128 + r % 64).toNat.toUInt8] ++ t) 1 = (128 + r / 64 % 64).toNat := hb _ (by omega) (by omega)
    have b2 : byt ([(224 + r / 4096).toNat.toUInt8, (128 + r / 64 % 64).toNat.toUInt8, (128 + r % 64).toNat.toUInt8] ++ t) 2 = (128 + r % 64).toNat := hb _ (by omega) (by omega)
    have c1 : cont ([(224 + r / 4096).toNat.toUInt8, (128 + r / 64 % 64).toNat.toUInt8, (128 + r % 64).toNat.toUInt8] ++ t) 1 = true := by
      unfold cont
      rw [b1]
      simp
      omega
    have c2 : cont ([(224 + r / 4096).toNat.toUInt8, (128 + r / 64 % 64).toNat.toUInt8, (128 + r % 64).toNat.toUInt8] ++ t) 2 = true := by
      unfold cont
      rw [b2]
      simp
      omega
    unfold dec
    rw [b0, b1, b2, c1, c2, if_neg (by omega), if_neg (by omega), if_pos ⟨by omega, rfl, rfl⟩, if_pos (by omega)]
    simp
    omega
  · have e : Lib.encodeRune r = [(240 + r / 262144).toNat.toUInt8, (128 + r / 4096 % 64).toNat.toUInt8, (128 + r / 64 % 64).toNat.toUInt8, (128 + r % 64).toNat.toUInt8] := by unfold Lib.encodeRune; rw [Lib.encodeRuneZ_four (by omega) (by omega)]; rfl
    rw [e]
    have b0 : byt ([(240 + r / 262144).toNat.toUInt8, (128 + r / 4096 % 64).toNat.toUInt8, (128 + r / 64 % 64).toNat.toUInt8, (128 + r % 64).toNat.toUInt8] ++ t) 0 = (240 + r / 262144).toNat := hb _ (by omega) (by omega)
    have b1 : byt ([(240 + r / 262144).toNat.toUInt8, (128 + r / 4096 % 64).toNat.toUInt8, (128 + r / 64 % 64).toNat.toUInt8, (128 + r % 64).toNat.toUInt8] ++ t) 1 = (128 + r / 4096 % 64).toNat := hb _ (by omega) (by omega)
    have b2 : byt ([(240 + r / 262144).toNat.toUInt8, (128 + r / 4096 % 64).toNat.toUInt8, (128 + r / 64 % 64).toNat.toUInt8, (128 + r % 64).toNat.toUInt8] ++ t) 2 = (128 + r / 64 % 64).toNat := hb _ (by omega) (by omega)
    have b3 : byt ([(240 + r / 262144).toNat.toUInt8, (128 + r / 4096 % 64).toNat.toUInt8, (128 + r / 64 % 64).toNat.toUInt8, (128 + r % 64).toNat.toUInt8] ++ t) 3 = (128 + r % 64).toNat := hb _ (by omega) (by omega)
    have c1 : cont ([(240 + r / 262144).toNat.toUInt8, (128 + r / 4096 % 64).toNat.toUInt8, (128 + r / 64 % 64).toNat.toUInt8, (128 + r % 64).toNat.toUInt8] ++ t) 1 = true := by
      unfold cont
      rw [b1]
      simp
      omega
    have c2 : cont ([(240 + r / 262144).toNat.toUInt8, (128 + r / 4096 % 64).toNat.toUInt8, (128 + r / 64 % 64).toNat.toUInt8, (128 + r % 64).toNat.toUInt8] ++ t) 2 = true := by
      unfold cont
      rw [b2]
      simp
      omega
    have c3 : cont ([(240 + r / 262144).toNat.toUInt8, (128 + r / 4096 % 64).toNat.toUInt8, (128 + r / 64 % 64).toNat.toUInt8, (128 + r % 64).toNat.toUInt8] ++ t) 3 = true := by
      unfold cont
      rw [b3]
      simp
      omega
    unfold dec
    rw [b0, b1, b2, b3, c1, c2, c3, if_neg (by omega), if_neg (by omega), if_neg (by omega), if_pos ⟨by omega, rfl, rfl, rfl⟩, if_pos (by omega)]
    simp
    omega

theorem runes_enc : ∀ l : List Int, (∀ r ∈ l, okR r) → runes (enc l) = l
  | [], _ => rfl
  | r :: l, h => by
    have hr := h r (by simp)
    have e := dec_enc hr (enc l)
    have hn : 0 ≤ r := by unfold okR at hr; omega
    rw [enc_cons, runes_step (by have := (Lib.encodeRuneZ_length r).1; simp [Lib.encodeRune]; omega), e]
    simp only [List.drop_left]
    rw [runes_enc l (fun x hx => h x (by simp [hx])), Int.toNat_of_nonneg hn]

/-- The characters made right; 'ahead': the one ahead of them. -/
def norm : Int → List Int → List Int
  | _, [] => []
  | a, r :: l => (if r = 13 then [10] else if r = 10 ∧ a = 13 then [] else if r = 0 then [65533] else [r]) ++ norm r l

/-- Is a character one that may stand in a right text? -/
def okN (r : Int) : Prop := okR r ∧ r ≠ 0 ∧ r ≠ 13

theorem norm_ok : ∀ (l : List Int) (a : Int), (∀ r ∈ l, okR r) → ∀ r ∈ norm a l, okN r
  | [], a, h => by simp [norm]
  | x :: l, a, h => by
    intro r hr
    unfold norm at hr
    rcases List.mem_append.1 hr with h1 | h1
    · have hx := h x (by simp)
      split at h1
      · simp at h1; subst h1; exact ⟨by unfold okR; omega, by omega, by omega⟩
      · split at h1
        · cases h1
        · split at h1
          · simp at h1; subst h1; exact ⟨by unfold okR; omega, by omega, by omega⟩
          · simp at h1; subst h1; exact ⟨hx, by assumption, by assumption⟩
    · exact norm_ok l x (fun y hy => h y (by simp [hy])) r h1

theorem norm_same : ∀ (l : List Int) (a : Int), a ≠ 13 → (∀ r ∈ l, okN r) → norm a l = l
  | [], a, _, _ => rfl
  | x :: l, a, ha, h => by
    have hx := h x (by simp)
    unfold norm
    rw [if_neg hx.2.2, if_neg (fun e => ha e.2), if_neg hx.2.1, norm_same l x hx.2.2 (fun y hy => h y (by simp [hy]))]
    rfl

/-- Bytes made right. -/
def right (l : List UInt8) : List UInt8 := enc (norm 0 (runes l))

theorem right_right (l : List UInt8) : right (right l) = right l := by
  have h := norm_ok (runes l) 0 (runes_ok _ l (Nat.le_refl _))
  unfold right
  rw [runes_enc _ (fun r hr => (h r hr).1), norm_same _ 0 (by omega) h]

theorem enc_len : ∀ l : List Int, (enc l).length ≤ 4 * l.length
  | [] => by simp [enc]
  | r :: l => by
    have := (Lib.encodeRuneZ_length r).2
    have ih := enc_len l
    rw [enc_cons, List.length_append, List.length_cons]
    have h : (Lib.encodeRune r).length = (Lib.encodeRuneZ r).length := by simp [Lib.encodeRune]
    omega

/-- Numbers that an int32 may have. -/
def i32s (l : List Int) : Prop := ∀ r ∈ l, -2147483648 ≤ r ∧ r ≤ 2147483647

theorem i32s_at {l : List Int} (h : i32s l) {k : Nat} {x : Int} (hx : l[k]? = some x) : -2147483648 ≤ x ∧ x ≤ 2147483647 := h x (List.mem_of_getElem? hx)

theorem drop_at {l : List Int} {k : Nat} {x : Int} (hx : l[k]? = some x) : l.drop k = x :: l.drop (k + 1) := by
  have hk := (List.getElem?_eq_some_iff.1 hx).1
  rw [List.drop_eq_getElem_cons hk]
  congr 1
  exact (List.getElem?_eq_some_iff.1 hx).2

theorem norm_len : ∀ (l : List Int) (a : Int), (norm a l).length ≤ l.length
  | [], a => by simp [norm]
  | r :: l, a => by
    have ih := norm_len l r
    unfold norm
    rw [List.length_append, List.length_cons]
    split
    · simp; omega
    · split
      · simp; omega
      · split
        · simp; omega
        · simp; omega

end Go.Proofs.Ytenjhfkdbmljnaa
