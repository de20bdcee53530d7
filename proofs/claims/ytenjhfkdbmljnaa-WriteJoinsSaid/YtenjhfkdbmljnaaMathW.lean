/- Bytes are a right text just if made right they are as they were: plain facts. -/
import Derived.Test.YtenjhfkdbmljnaaMathV
namespace Go.Proofs.Ytenjhfkdbmljnaa
set_option linter.unusedVariables false

theorem u8_of {c : UInt8} {x : Int} (h : x = (c.toNat : Int)) : x.toNat.toUInt8 = c := by
  subst h
  simp

theorem byt_at {l : List UInt8} {k : Nat} {c : UInt8} (h : l[k]? = some c) : byt l k = c.toNat := by
  unfold byt
  rw [List.getD_eq_getElem?_getD, h]
  rfl

theorem cont_nat {l : List UInt8} {k : Nat} (h : cont l k = true) : byt l k / 64 = 2 := by
  unfold cont at h
  simp at h
  exact h.2

theorem pre_wrong {l : List UInt8} (h : Lib.hasPrefix l [239, 191, 189] = true) : ∃ t, l = 239 :: 191 :: 189 :: t := by
  unfold Lib.hasPrefix at h
  match l, h with
  | [], h => simp [List.isPrefixOf] at h
  | [a], h => simp [List.isPrefixOf] at h
  | [a, b], h => simp [List.isPrefixOf] at h
  | a :: b :: c :: t, h =>
    simp [List.isPrefixOf] at h
    exact ⟨t, by rw [h.1, h.2.1, h.2.2]⟩

theorem dec_wrong (t : List UInt8) : dec (239 :: 191 :: 189 :: t) = (65533, 3) := by
  have b0 : byt (239 :: 191 :: 189 :: t) 0 = 239 := rfl
  have b1 : byt (239 :: 191 :: 189 :: t) 1 = 191 := rfl
  have b2 : byt (239 :: 191 :: 189 :: t) 2 = 189 := rfl
  have c1 : cont (239 :: 191 :: 189 :: t) 1 = true := by unfold cont; rw [b1]; simp
  have c2 : cont (239 :: 191 :: 189 :: t) 2 = true := by unfold cont; rw [b2]; simp
  unfold dec
  rw [b0, b1, b2, c1, c2]
  rfl

theorem two_more {a : UInt8} {l : List UInt8} (h : 2 < (a :: l).length) : ∃ b c l', l = b :: c :: l' := by
  match l, h with
  | [], h => simp at h
  | [b], h => simp at h
  | b :: c :: l', _ => exact ⟨b, c, l', rfl⟩
theorem three_more {a : UInt8} {l : List UInt8} (h : 3 < (a :: l).length) : ∃ b c d l', l = b :: c :: d :: l' := by
  match l, h with
  | [], h => simp at h
  | [b], h => simp at h
  | [b, c], h => simp at h
  | b :: c :: d :: l', _ => exact ⟨b, c, d, l', rfl⟩

theorem enc_dec {l : List UInt8} (h0 : 0 < l.length) (h : okAt l = true) : Lib.encodeRune ((dec l).1 : Int) = l.take (dec l).2 := by
  by_cases hp : Lib.hasPrefix l [239, 191, 189] = true
  · obtain ⟨t, rfl⟩ := pre_wrong hp
    rw [dec_wrong]
    rfl
  have hw : (dec l).1 ≠ 65533 := by
    intro e
    unfold okAt at h
    rw [e] at h
    simp at h
    exact hp h
  match l, h0 with
  | a :: l, _ =>
    have b0 : byt (a :: l) 0 = a.toNat := rfl
    have ha := a.toNat_lt
    unfold dec at hw ⊢
    rw [b0] at hw ⊢
    split
    · rename_i h1
      simp only [List.take_succ_cons, List.take_zero]
      unfold Lib.encodeRune
      rw [Lib.encodeRuneZ_one (by omega) (by omega)]
      simp only [List.map_cons, List.map_nil]
      rw [u8_of rfl]
    · rename_i h1
      rw [if_neg h1] at hw
      split
      · rename_i h2
        rw [if_pos h2] at hw
        have k1 := byt_len h2.2
        have n1 := cont_nat h2.2
        obtain ⟨b, l', rfl⟩ : ∃ b l', l = b :: l' := by cases l with | nil => simp at k1 | cons b l' => exact ⟨b, l', rfl⟩
        have b1 : byt (a :: b :: l') 1 = b.toNat := rfl
        rw [b1] at hw n1 ⊢
        split
        · rename_i h3
          simp only [List.take_succ_cons, List.take_zero]
          unfold Lib.encodeRune
          rw [Lib.encodeRuneZ_two (by omega) (by omega)]
          simp only [List.map_cons, List.map_nil]
          rw [u8_of (c := a) (by omega), u8_of (c := b) (by omega)]
        · rename_i h3; rw [if_neg h3] at hw; exact absurd rfl hw
      · rename_i h2
        rw [if_neg h2] at hw
        split
        · rename_i h3
          rw [if_pos h3] at hw
          have k1 := byt_len h3.2.1
          have k2 := byt_len h3.2.2
          have n1 := cont_nat h3.2.1
          have n2 := cont_nat h3.2.2
          obtain ⟨b, c, l', rfl⟩ := two_more k2
          have b1 : byt (a :: b :: c :: l') 1 = b.toNat := rfl
          have b2 : byt (a :: b :: c :: l') 2 = c.toNat := rfl
          rw [b1] at hw n1 ⊢
          rw [b2] at hw n2 ⊢
          split
          · rename_i h4
            simp only [List.take_succ_cons, List.take_zero]
            unfold Lib.encodeRune
            rw [Lib.encodeRuneZ_three (by omega)]
            simp only [List.map_cons, List.map_nil]
            have e1 : (224 + (((a.toNat % 16 * 4096 + b.toNat % 64 * 64 + c.toNat % 64 : Nat) : Int)) / 4096) = (a.toNat : Int) := by omega
            have e2 : (128 + (((a.toNat % 16 * 4096 + b.toNat % 64 * 64 + c.toNat % 64 : Nat) : Int)) / 64 % 64) = (b.toNat : Int) := by omega
            have e3 : (128 + (((a.toNat % 16 * 4096 + b.toNat % 64 * 64 + c.toNat % 64 : Nat) : Int)) % 64) = (c.toNat : Int) := by omega
            rw [u8_of e1, u8_of e2, u8_of e3]
          · rename_i h4; rw [if_neg h4] at hw; exact absurd rfl hw
        · rename_i h3
          rw [if_neg h3] at hw
          split
          · rename_i h4
            rw [if_pos h4] at hw
            have k3 := byt_len h4.2.2.2
            have n1 := cont_nat h4.2.1
            have n2 := cont_nat h4.2.2.1
            have n3 := cont_nat h4.2.2.2
            obtain ⟨b, c, d, l', rfl⟩ := three_more k3
            have b1 : byt (a :: b :: c :: d :: l') 1 = b.toNat := rfl
            have b2 : byt (a :: b :: c :: d :: l') 2 = c.toNat := rfl
            have b3 : byt (a :: b :: c :: d :: l') 3 = d.toNat := rfl
            rw [b1] at hw n1 ⊢
            rw [b2] at hw n2 ⊢
            rw [b3] at hw n3 ⊢
            split
            · rename_i h5
              simp only [List.take_succ_cons, List.take_zero]
              unfold Lib.encodeRune
              rw [Lib.encodeRuneZ_four (by omega) (by omega)]
              simp only [List.map_cons, List.map_nil]
              have e1 : (240 + (((a.toNat % 8 * 262144 + b.toNat % 64 * 4096 + c.toNat % 64 * 64 + d.toNat % 64 : Nat) : Int)) / 262144) = (a.toNat : Int) := by omega
              have e2 : (128 + (((a.toNat % 8 * 262144 + b.toNat % 64 * 4096 + c.toNat % 64 * 64 + d.toNat % 64 : Nat) : Int)) / 4096 % 64) = (b.toNat : Int) := by omega
              have e3 : (128 + (((a.toNat % 8 * 262144 + b.toNat % 64 * 4096 + c.toNat % 64 * 64 + d.toNat % 64 : Nat) : Int)) / 64 % 64) = (c.toNat : Int) := by omega
              have e4 : (128 + (((a.toNat % 8 * 262144 + b.toNat % 64 * 4096 + c.toNat % 64 * 64 + d.toNat % 64 : Nat) : Int)) % 64) = (d.toNat : Int) := by omega
              rw [u8_of e1, u8_of e2, u8_of e3, u8_of e4]
            · rename_i h5; rw [if_neg h5] at hw; exact absurd rfl hw
          · rename_i h4; rw [if_neg h4] at hw; exact absurd rfl hw

/-- A right text is the text of characters that may stand in one. -/
theorem isB_chars : ∀ (n : Nat) (l : List UInt8), l.length ≤ n → isB l = true → ∃ L, (∀ r ∈ L, okN r) ∧ l = enc L
  | 0, l, h, _ => ⟨[], by simp, List.eq_nil_of_length_eq_zero (by omega)⟩
  | n + 1, l, h, hb => by
    by_cases h0 : l.length = 0
    · exact ⟨[], by simp, List.eq_nil_of_length_eq_zero h0⟩
    · have hw := dec_width (l := l) (by omega)
      rw [isB_step (by omega), Bool.and_eq_true] at hb
      obtain ⟨L, ok, e⟩ := isB_chars n (l.drop (dec l).2) (by rw [List.length_drop]; omega) hb.2
      have he := enc_dec (l := l) (by omega) hb.1
      refine ⟨((dec l).1 : Int) :: L, ?_, ?_⟩
      · intro r hr
        rcases List.mem_cons.1 hr with rfl | hr
        · have h1 := hb.1
          unfold okAt at h1
          simp at h1
          exact ⟨dec_ok l, by omega, by omega⟩
        · exact ok r hr
      · rw [enc_cons, he, ← e, List.take_append_drop]

theorem right_of_isB {l : List UInt8} (h : isB l = true) : right l = l := by
  obtain ⟨L, ok, rfl⟩ := isB_chars _ l (Nat.le_refl _) h
  unfold right
  rw [runes_enc _ (fun r hr => (ok r hr).1), norm_same _ 0 (by omega) ok]
theorem isB_iff (l : List UInt8) : isB l = decide (right l = l) := by
  by_cases h : right l = l
  · rw [decide_eq_true h, ← h, isB_right]
  · rw [decide_eq_false h]
    cases hb : isB l with
    | false => rfl
    | true => exact absurd (right_of_isB hb) h

end Go.Proofs.Ytenjhfkdbmljnaa
