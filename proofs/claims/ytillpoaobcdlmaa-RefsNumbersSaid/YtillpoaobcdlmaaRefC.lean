/- strings.Contains at "&", strings.Clone: their walks. -/
import Derived.Test.YtillpoaobcdlmaaRefO
namespace Go.Proofs.Ytillpoaobcdlmaa
open Go.RowKit
set_option linter.unusedVariables false

set_option maxHeartbeats 1000000 in
set_option maxRecDepth 100000 in
theorem index_any (s : ByteArray) (w : World) (hm : s.size ≤ 1000000) :
    Calls Try.prog 42 #[.string s, .string ⟨#[38]⟩] w fun e w' => e = .returned (.int .i64 (Lib.indexByte s.data.toList 38)) ∧ w = w' := by
  obtain ⟨q, hq⟩ : ∃ q, decide (s.data.toList = [38]) = q := ⟨_, rfl⟩
  have he := eq_lit s [38]
  rw [hq] at he
  have hI := Try.stringslite_IndexByte s 38 w
  have HI := Lib.hid hI
  clear hI
  cases q with
  | true =>
    have HF := Lib.hid (show Lib.indexByte s.data.toList 38 = 0 by rw [of_decide_eq_true hq]; rfl)
    clear hq
    go_enter Try.func42, Try.ntmps42
    go_wp2_with fail
    go_ret
    exact ⟨by rw [HF.out]; rfl, rfl⟩
  | false =>
    clear hq
    go_enter Try.func42, Try.ntmps42
    go_wp2_with fail
    refine HI.out.mono ?_
    rintro e w1 ⟨rfl, rfl⟩
    go_wp2_with fail
    go_ret
    exact ⟨rfl, rfl⟩

set_option maxHeartbeats 1000000 in
theorem contains_any (s : ByteArray) (w : World) (hm : s.size ≤ 1000000) :
    Calls Try.prog 20 #[.string s, .string ⟨#[38]⟩] w fun e w' => e = .returned (.bool (decide (0 ≤ Lib.indexByte s.data.toList 38))) ∧ w = w' := by
  have hI := Lib.hid (index_any s w hm)
  obtain ⟨i, hi⟩ : ∃ i, Lib.indexByte s.data.toList 38 = i := ⟨_, rfl⟩
  rw [hi] at hI ⊢
  clear hi
  go_enter Try.func20, Try.ntmps20
  go_wp2_with fail
  have h32 : Calls Try.prog 32 #[.string s, .string ⟨#[38]⟩] w fun e w' => e = .returned (.int .i64 i) ∧ w = w' := by
    go_enter Try.func32, Try.ntmps32
    go_wp2_with fail
    refine hI.out.mono ?_
    rintro e w1 ⟨rfl, rfl⟩
    go_wp2_with fail
    go_ret
    exact ⟨rfl, rfl⟩
  refine h32.mono ?_
  rintro e w1 ⟨rfl, rfl⟩
  clear h32
  go_wp2_with fail
  go_ret
  exact ⟨rfl, rfl⟩

set_option maxHeartbeats 1000000 in
theorem clone_any (s : ByteArray) (w : World) (hm : s.size ≤ 1000000) :
    Calls Try.prog 21 #[.string s] w fun e w' => e = .returned (.string s) ∧ Below w.heap.size w w' := by
  go_enter Try.func21, Try.ntmps21
  go_wp2_with fail
  refine (Try.stringslite_Clone s _ (by omega)).mono ?_
  rintro e w1 ⟨rfl, hb⟩
  go_wp2_with fail
  go_ret
  exact ⟨rfl, hb⟩

end Go.Proofs.Ytillpoaobcdlmaa
