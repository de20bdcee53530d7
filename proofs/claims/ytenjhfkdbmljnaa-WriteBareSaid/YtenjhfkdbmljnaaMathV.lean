/- Which bytes are a right text: plain facts. -/
import Derived.Test.YtenjhfkdbmljnaaMathU
import Derived.Test.YtenjhfkdbmljnaaNorm
import Derived.Lib.Strings
namespace Go.Proofs.Ytenjhfkdbmljnaa
set_option linter.unusedVariables false

/-- May bytes begin as they do in a right text? -/
def okAt (l : List UInt8) : Bool := !(decide ((dec l).1 = 0) || decide ((dec l).1 = 13) || (decide ((dec l).1 = 65533) && !Lib.hasPrefix l [239, 191, 189]))

def isF : Nat → List UInt8 → Bool
  | 0, _ => true
  | f + 1, l => if l.length = 0 then true else okAt l && isF f (l.drop (dec l).2)
/-- Are bytes a right text? -/
def isB (l : List UInt8) : Bool := isF l.length l

theorem isF_fuel : ∀ (f g : Nat) (l : List UInt8), l.length ≤ f → l.length ≤ g → isF f l = isF g l
  | 0, 0, l, _, _ => rfl
  | 0, g + 1, l, h, _ => by
    have : l.length = 0 := by omega
    simp [isF, this]
  | f + 1, 0, l, _, h => by
    have : l.length = 0 := by omega
    simp [isF, this]
  | f + 1, g + 1, l, hf, hg => by
    unfold isF
    by_cases h0 : l.length = 0
    · rw [if_pos h0, if_pos h0]
    · have hw := dec_width (l := l) (by omega)
      rw [if_neg h0, if_neg h0, isF_fuel f g _ (by rw [List.length_drop]; omega) (by rw [List.length_drop]; omega)]

theorem isB_nil : isB [] = true := rfl
theorem isB_step {l : List UInt8} (h : 0 < l.length) : isB l = (okAt l && isB (l.drop (dec l).2)) := by
  have hw := dec_width h
  obtain ⟨m, hm⟩ : ∃ m, l.length = m + 1 := ⟨l.length - 1, by omega⟩
  unfold isB
  rw [hm]
  conv => lhs; unfold isF
  rw [if_neg (by omega), isF_fuel m _ _ (by rw [List.length_drop]; omega) (Nat.le_refl _)]

theorem isB_enc : ∀ L : List Int, (∀ r ∈ L, okN r) → isB (enc L) = true
  | [], _ => rfl
  | r :: L, h => by
    have hr := h r (by simp)
    have e := dec_enc hr.1 (enc L)
    have hn : 0 ≤ r := by have := hr.1; unfold okR at this; omega
    rw [enc_cons, isB_step (by have := (Lib.encodeRuneZ_length r).1; simp [Lib.encodeRune]; omega)]
    have e2 : (dec (Lib.encodeRune r ++ enc L)).2 = (Lib.encodeRune r).length := by rw [e]
    rw [e2, List.drop_left, isB_enc L (fun x hx => h x (by simp [hx])), Bool.and_true]
    unfold okAt
    rw [e]
    have h0 := hr.2.1
    have h13 := hr.2.2
    by_cases h6 : r = 65533
    · subst h6
      have e1 : Lib.encodeRune 65533 = [239, 191, 189] := by decide
      rw [e1]
      simp [Lib.hasPrefix]
    · have a1 : ¬ r.toNat = 0 := by omega
      have a2 : ¬ r.toNat = 13 := by omega
      have a3 : ¬ r.toNat = 65533 := by omega
      simp [a1, a2, a3]

theorem right_len (l : List UInt8) : (right l).length ≤ 4 * l.length := by
  have h1 := runes_len _ l (Nat.le_refl _)
  have h2 := norm_len (runes l) 0
  have h3 := enc_len (norm 0 (runes l))
  unfold right
  omega

theorem isB_right (l : List UInt8) : isB (right l) = true := isB_enc _ (norm_ok (runes l) 0 (runes_ok _ l (Nat.le_refl _)))

theorem isB_join (a b : List UInt8) : isB (right a ++ right b) = true := by
  unfold right
  rw [← enc_append]
  refine isB_enc _ (fun r hr => ?_)
  rcases List.mem_append.1 hr with h | h
  · exact norm_ok (runes a) 0 (runes_ok _ a (Nat.le_refl _)) r h
  · exact norm_ok (runes b) 0 (runes_ok _ b (Nat.le_refl _)) r h

theorem runes_right (a : List UInt8) : runes (right a) = norm 0 (runes a) := runes_enc _ (fun r hr => (norm_ok (runes a) 0 (runes_ok _ a (Nat.le_refl _)) r hr).1)

theorem runes_join (a b : List UInt8) : runes (right a ++ right b) = runes (right a) ++ runes (right b) := by
  rw [runes_right, runes_right]
  unfold right
  rw [← enc_append]
  refine runes_enc _ (fun r hr => ?_)
  rcases List.mem_append.1 hr with h | h
  · exact (norm_ok (runes a) 0 (runes_ok _ a (Nat.le_refl _)) r h).1
  · exact (norm_ok (runes b) 0 (runes_ok _ b (Nat.le_refl _)) r h).1

end Go.Proofs.Ytenjhfkdbmljnaa
