/- dom.Void, dom.Raw: their walks. -/
import Derived.Test.YtenjhfkdbmljnaaNamR
namespace Go.Proofs.Ytenjhfkdbmljnaa
open Go.RowKit
set_option linter.unusedVariables false

set_option maxHeartbeats 400000 in
theorem raw_any (s : ByteArray) (w : World) :
    Calls Try.prog 50 #[.string s] w fun e w' => e = .returned (.bool (rawB s.data.toList)) ∧ w = w' := by
  have h1 := eqs s [115, 99, 114, 105, 112, 116]
  have h2 := eqs s [115, 116, 121, 108, 101]
  obtain ⟨q1, e1⟩ : ∃ q, decide (s.data.toList = [115, 99, 114, 105, 112, 116]) = q := ⟨_, rfl⟩
  obtain ⟨q2, e2⟩ : ∃ q, decide (s.data.toList = [115, 116, 121, 108, 101]) = q := ⟨_, rfl⟩
  have HF := Lib.hid (show rawB s.data.toList = (q1 || q2) by unfold rawB; rw [e1, e2])
  rw [e1] at h1
  rw [e2] at h2
  clear e1 e2
  cases q1 <;> cases q2
  all_goals
    go_enter Try.func50, Try.ntmps50
    go_wp2
    go_ret
    exact ⟨by rw [HF.out]; rfl, rfl⟩

set_option maxHeartbeats 1000000 in
theorem void_any (s : ByteArray) (w : World) :
    Calls Try.prog 43 #[.string s] w fun e w' => e = .returned (.bool (voidB s.data.toList)) ∧ w = w' := by
  have h1 := eqs s [98, 114]
  have h2 := eqs s [104, 114]
  have h3 := eqs s [105, 109, 103]
  have h4 := eqs s [105, 110, 112, 117, 116]
  have h5 := eqs s [119, 98, 114]
  obtain ⟨q1, e1⟩ : ∃ q, decide (s.data.toList = [98, 114]) = q := ⟨_, rfl⟩
  obtain ⟨q2, e2⟩ : ∃ q, decide (s.data.toList = [104, 114]) = q := ⟨_, rfl⟩
  obtain ⟨q3, e3⟩ : ∃ q, decide (s.data.toList = [105, 109, 103]) = q := ⟨_, rfl⟩
  obtain ⟨q4, e4⟩ : ∃ q, decide (s.data.toList = [105, 110, 112, 117, 116]) = q := ⟨_, rfl⟩
  obtain ⟨q5, e5⟩ : ∃ q, decide (s.data.toList = [119, 98, 114]) = q := ⟨_, rfl⟩
  have HF := Lib.hid (show voidB s.data.toList = (q1 || q2 || q3 || q4 || q5) by unfold voidB; rw [e1, e2, e3, e4, e5])
  rw [e1] at h1
  rw [e2] at h2
  rw [e3] at h3
  rw [e4] at h4
  rw [e5] at h5
  clear e1 e2 e3 e4 e5
  cases q1
  case' false => cases q2
  case' false.false => cases q3
  case' false.false.false => cases q4
  case' false.false.false.false => cases q5
  all_goals
    go_enter Try.func43, Try.ntmps43
    go_wp2
    go_ret
    exact ⟨by rw [HF.out]; first | rfl | (simp only [Bool.true_or, Bool.false_or]; rfl), rfl⟩

end Go.Proofs.Ytenjhfkdbmljnaa
