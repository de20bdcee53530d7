/- refs.digit, character, written: their walks. -/
import Derived.Test.YtillpoaobcdlmaaMem
import Derived.Test.YtillpoaobcdlmaaRefM
import Derived.Test.YtillpoaobcdlmaaShelf
import Derived.BigCall
namespace Go.Proofs.Ytillpoaobcdlmaa
open Go.RowKit
set_option linter.unusedVariables false

set_option maxHeartbeats 400000 in
theorem digit_any (r : Int) (w : World) (h0 : 0 ≤ r) (h1 : r ≤ 1114111) :
    Calls Try.prog 55 #[.int .i32 r] w fun e w' => e = .returned (.int .i32 (digR r)) ∧ w = w' := by
  by_cases a : 48 ≤ r ∧ r ≤ 57
  · have hd := Lib.hid (show digR r = r - 48 by unfold digR; rw [if_pos a])
    obtain ⟨a1, a2⟩ := a
    go_enter Try.func55, Try.ntmps55
    go_wp2
    go_ret
    exact ⟨ret_int hd.out.symm, rfl⟩
  by_cases b : 97 ≤ r ∧ r ≤ 102
  · have hd := Lib.hid (show digR r = r - 97 + 10 by unfold digR; rw [if_neg a, if_pos b])
    obtain ⟨b1, b2⟩ := b
    clear a
    go_enter Try.func55, Try.ntmps55
    go_wp2
    go_ret
    exact ⟨ret_int hd.out.symm, rfl⟩
  by_cases c : 65 ≤ r ∧ r ≤ 70
  · have hd := Lib.hid (show digR r = r - 65 + 10 by unfold digR; rw [if_neg a, if_neg b, if_pos c])
    obtain ⟨c1, c2⟩ := c
    clear a b
    go_enter Try.func55, Try.ntmps55
    go_wp2
    go_ret
    exact ⟨ret_int hd.out.symm, rfl⟩
  have hd := Lib.hid (show digR r = -1 by unfold digR; rw [if_neg a, if_neg b, if_neg c])
  rcases (show r < 48 ∨ (57 < r ∧ r < 65) ∨ (70 < r ∧ r < 97) ∨ 102 < r by omega) with h | ⟨h, h'⟩ | ⟨h, h'⟩ | h
  all_goals
    clear a b c
    go_enter Try.func55, Try.ntmps55
    go_wp2
    go_ret
    exact ⟨ret_int hd.out.symm, rfl⟩

theorem validR (r : Int) : Lib.validRune r = decide ((0 ≤ r ∧ r < 55296) ∨ (57343 < r ∧ r ≤ 1114111)) := by
  rfl

set_option maxHeartbeats 400000 in
theorem character_any (r : Int) (w : World) (h0 : 0 ≤ r) (h1 : r ≤ 100000000) :
    Calls Try.prog 53 #[.int .i32 r] w fun e w' => e = .returned (.int .i32 (charB r)) ∧ w = w' := by
  by_cases a : r = 0
  · subst a
    go_enter Try.func53, Try.ntmps53
    go_wp2_with fail
    go_ret
    exact ⟨ret_int rfl, rfl⟩
  by_cases b : r = 13
  · subst b
    go_enter Try.func53, Try.ntmps53
    go_wp2_with fail
    go_ret
    exact ⟨ret_int rfl, rfl⟩
  have B0 : (r == 0) = false := by simp [a]
  have B13 : (r == 13) = false := by simp [b]
  have hv := validR r
  by_cases c : (0 ≤ r ∧ r < 55296) ∨ (57343 < r ∧ r ≤ 1114111)
  · have hd := Lib.hid (show charB r = r by unfold charB; rw [if_neg (by omega)])
    rw [decide_eq_true c] at hv
    have HV := Lib.hid hv
    clear a b c hv
    go_enter Try.func53, Try.ntmps53
    go_wp2_with fail
    refine (Try.utf8_ValidRune r _).mono ?_
    rw [HV.out]
    rintro e w' ⟨rfl, rfl⟩
    go_wp2_with fail
    go_ret
    exact ⟨ret_int hd.out.symm, rfl⟩
  · have hd := Lib.hid (show charB r = 65533 by unfold charB; rw [if_pos (by omega)])
    rw [decide_eq_false c] at hv
    have HV := Lib.hid hv
    clear a b c hv
    go_enter Try.func53, Try.ntmps53
    go_wp2_with fail
    refine (Try.utf8_ValidRune r _).mono ?_
    rw [HV.out]
    rintro e w' ⟨rfl, rfl⟩
    go_wp2_with fail
    go_ret
    exact ⟨ret_int hd.out.symm, rfl⟩

set_option maxHeartbeats 400000 in
theorem written_ref (u : UInt8) (v : Bool) (w : World) :
    Calls Try.prog 17 #[.int .u8 u.toNat, .bool v] w fun e w' => e = .returned (.string ⟨(wrB v u).toArray⟩) ∧ w = w' := by
  by_cases a : u = 38
  · subst a
    have hd := Lib.hid (show wrB v 38 = [38, 97, 109, 112, 59] from rfl)
    go_enter Try.func17, Try.ntmps17
    go_wp2
    go_ret
    rw [hd.out]
    exact ⟨rfl, rfl⟩
  by_cases b : u = 60
  · subst b
    have hd := Lib.hid (show wrB v 60 = [38, 108, 116, 59] from rfl)
    go_enter Try.func17, Try.ntmps17
    go_wp2
    go_ret
    rw [hd.out]
    exact ⟨rfl, rfl⟩
  by_cases c : u = 62
  · subst c
    have hd := Lib.hid (show wrB v 62 = [38, 103, 116, 59] from rfl)
    go_enter Try.func17, Try.ntmps17
    go_wp2
    go_ret
    rw [hd.out]
    exact ⟨rfl, rfl⟩
  by_cases d : u = 34
  · subst d
    cases v with
    | true =>
      have hd := Lib.hid (show wrB true 34 = [38, 113, 117, 111, 116, 59] from rfl)
      go_enter Try.func17, Try.ntmps17
      go_wp2
      go_ret
      rw [hd.out]
      exact ⟨rfl, rfl⟩
    | false =>
      have hd := Lib.hid (show wrB false 34 = [] from rfl)
      go_enter Try.func17, Try.ntmps17
      go_wp2
      go_ret
      rw [hd.out]
      exact ⟨rfl, rfl⟩
  have hn : ∀ n : Nat, n < 256 → u ≠ n.toUInt8 → ((u.toNat : Int) == (n : Int)) = false := by
    intro n h1 h2
    rw [beq_eq_false_iff_ne]
    intro e
    apply h2
    apply UInt8.toNat_inj.1
    simp
    omega
  have A : ((u.toNat : Int) == 38) = false := hn 38 (by omega) a
  have B : ((u.toNat : Int) == 60) = false := hn 60 (by omega) b
  have C : ((u.toNat : Int) == 62) = false := hn 62 (by omega) c
  have D : ((u.toNat : Int) == 34) = false := hn 34 (by omega) d
  have hd := Lib.hid (show wrB v u = [] by unfold wrB; rw [if_neg a, if_neg b, if_neg c, if_neg (fun h => d h.1)])
  clear hn a b c d
  go_enter Try.func17, Try.ntmps17
  go_wp2
  go_ret
  rw [hd.out]
  exact ⟨rfl, rfl⟩

end Go.Proofs.Ytillpoaobcdlmaa
