/- utf.Prefix: its walk. -/
import Derived.Test.YtgkbgcaajfjjpaaFold
import Derived.Deep.QuietTactic
import Derived.BigQuiet
namespace Go.Proofs.Ytgkbgcaajfjjpaa
open Go.RowKit
set_option linter.unusedVariables false

/-- Do the first bytes of l, made small, make up the word? -/
def prefB (l word : List UInt8) : Bool := decide ((l.map lowB).take word.length = word)

theorem prefB_short {l word : List UInt8} (h : l.length < word.length) : prefB l word = false := by
  unfold prefB
  rw [decide_eq_false_iff_not]
  intro e
  have := congrArg List.length e
  simp at this
  omega

theorem prefB_no {l word : List UInt8} {k : Nat} (h1 : k < l.length) (h2 : k < word.length) (h : lowB l[k] ≠ word[k]) : prefB l word = false := by
  unfold prefB
  rw [decide_eq_false_iff_not]
  intro e
  have e1 : ((l.map lowB).take word.length)[k]? = word[k]? := by rw [e]
  rw [List.getElem?_take_of_lt h2, List.getElem?_map, List.getElem?_eq_getElem h1, List.getElem?_eq_getElem h2] at e1
  exact h (by simpa using e1)

theorem prefB_yes {l word : List UInt8} (hl : word.length ≤ l.length) (h : ∀ j, (h2 : j < word.length) → lowB (l[j]'(by omega)) = word[j]) : prefB l word = true := by
  unfold prefB
  rw [decide_eq_true_iff]
  apply List.ext_getElem
  · simp; omega
  · intro i h1 h2
    simp
    exact h i h2

set_option maxHeartbeats 400000 in
theorem prefix_any (s word : ByteArray) (w : World) (hs : s.size ≤ maxLen) (hw : word.size ≤ maxLen) :
    Calls Try.prog 20 #[.string s, .string word] w fun e w' => e = .returned (.bool (prefB s.data.toList word.data.toList)) ∧ Below w.heap.size w w' := by
  unfold maxLen at hs hw
  have hsl : s.data.toList.length = s.size := by simp
  have hwl : word.data.toList.length = word.size := by simp
  by_cases hlen : s.size < word.size
  · have hp := Lib.hid (prefB_short (l := s.data.toList) (word := word.data.toList) (by omega))
    clear hsl hwl
    go_enter Try.func20, Try.ntmps20
    go_wp2
    go_ret
    exact ⟨by rw [hp.out]; rfl, Below.refl _ _⟩
  · go_enter Try.func20, Try.ntmps20
    go_wp2
    go_loopw [13] (fun i wr => ∃ k : Nat, k ≤ word.size ∧ i = .int .i64 k ∧ (∀ j, (h2 : j < k) → (h3 : k ≤ word.size) → lowB (s[j]'(by omega)) = word[j]'(by omega)) ∧ Below w.heap.size w wr) (fun i _ => word.size - (intOf i).toNat)
    case atStart => exact ⟨0, Nat.zero_le _, rfl, fun _ h => absurd h (by omega), Below.refl _ _⟩
    case round =>
      obtain ⟨k, hk, rfl, hall, hbel⟩ := hrel
      have HA := Lib.hid hall
      clear hall
      by_cases hlt : k < word.size
      · have hlt2 : k < s.size := by omega
        by_cases he : lowB s[k] = word[k]
        · have hne : (((lowB s[k]).toNat : Int) != (word[k].toNat : Int)) = false := by rw [he]; simp
          have HE := Lib.hid he
          clear he
          go_wp2_with fail
          go_quiet ((go_at_call 29; exact quiet_here (small_any _ _)))
          go_wp2
          go_roundw
          case rel =>
            refine ⟨k + 1, by omega, by go_num, fun j h2 h3 => ?_, below_drewN hbel _⟩
            by_cases hj : j < k
            · exact HA.out j hj (by omega)
            · obtain rfl : j = k := by omega
              exact HE.out
          case measure => simp [intOf]; omega
        · have hne : (((lowB s[k]).toNat : Int) != (word[k].toNat : Int)) = true := by
            rw [bne_iff_ne]
            intro e
            exact he (UInt8.toNat_inj.1 (by omega))
          have hp := Lib.hid (prefB_no (l := s.data.toList) (word := word.data.toList) (k := k) (by omega) (by omega) (by rw [at_data s k hlt2, at_data word k hlt]; exact he))
          clear he
          go_wp2_with fail
          go_quiet ((go_at_call 29; exact quiet_here (small_any _ _)))
          go_wp2
          go_ret
          exact ⟨by rw [hp.out]; rfl, below_drewN hbel _⟩
      · obtain rfl : k = word.size := by omega
        have hp := Lib.hid (prefB_yes (l := s.data.toList) (word := word.data.toList) (by omega) (fun j h2 => by rw [at_data s j (by omega), at_data word j (by omega)]; exact HA.out j (by omega) (by omega)))
        go_wp2
        go_ret
        exact ⟨by rw [hp.out]; rfl, hbel⟩

end Go.Proofs.Ytgkbgcaajfjjpaa
