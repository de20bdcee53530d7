/- strainerlaw02.few, lives, RefsWrites, RefsJoins: their walks. -/
import Derived.Test.YtillpoaobcdlmaaRefG
namespace Go.Proofs.Ytillpoaobcdlmaa
open Go.RowKit
set_option linter.unusedVariables false

/-- The first 200 bytes. -/
def fewS (s : ByteArray) : ByteArray := if 200 < s.size then s.extract 0 200 else s
theorem fewS_size (s : ByteArray) : (fewS s).size ≤ 200 := by
  unfold fewS
  split
  · rw [ByteArray.size_extract]; omega
  · omega

set_option maxHeartbeats 400000 in
theorem few2_any (s : ByteArray) (w : World) (hm : s.size ≤ maxLen) :
    Calls Try.prog 8 #[.string s] w fun e w' => e = .returned (.string (fewS s)) ∧ w = w' := by
  unfold maxLen at hm
  by_cases h : 200 < s.size
  · have hf := Lib.hid (show fewS s = s.extract 0 200 by unfold fewS; rw [if_pos h])
    go_enter Try.func8, Try.ntmps8
    go_wp2
    go_ret
    exact ⟨by rw [hf.out]; rfl, rfl⟩
  · have hf := Lib.hid (show fewS s = s by unfold fewS; rw [if_neg h])
    go_enter Try.func8, Try.ntmps8
    go_wp2
    go_ret
    exact ⟨by rw [hf.out]; rfl, rfl⟩

theorem ex_dec : (⟨(decB (⟨#[97, 38, 108, 116, 59, 38, 35, 120, 50, 48, 65, 67, 59, 38, 110, 111, 59]⟩ : ByteArray).data.toList).toArray⟩ : ByteArray) = ⟨#[97, 60, 226, 130, 172, 38, 110, 111, 59]⟩ := by
  have : decB [97, 38, 108, 116, 59, 38, 35, 120, 50, 48, 65, 67, 59, 38, 110, 111, 59] = [97, 60, 226, 130, 172, 38, 110, 111, 59] := by decide +kernel
  show (⟨(decB [97, 38, 108, 116, 59, 38, 35, 120, 50, 48, 65, 67, 59, 38, 110, 111, 59]).toArray⟩ : ByteArray) = _
  rw [this]
theorem ex_esc : (⟨(escB false (⟨#[60]⟩ : ByteArray).data.toList).toArray⟩ : ByteArray) = ⟨#[38, 108, 116, 59]⟩ := rfl

set_option maxHeartbeats 1000000 in
theorem lives2_any (w : World) : Calls Try.prog 12 #[] w fun e w' => e = .returned (.bool true) ∧ Below w.heap.size w w' := by
  go_enter Try.func12, Try.ntmps12
  go_wp2_with fail
  refine (decode_any _ _ (by decide)).mono ?_
  rw [ex_dec]
  rintro e w1 ⟨rfl, hb1⟩
  go_wp2_with fail
  refine (escape_any _ _ _ (by decide)).mono ?_
  rw [ex_esc]
  rintro e w2 ⟨rfl, hb2⟩
  have hB2 := below_after hb1 hb2
  go_wp2_with fail
  go_ret
  exact ⟨rfl, hB2⟩

set_option maxHeartbeats 2000000 in
theorem refsWrites_end (s0 : ByteArray) (v : Bool) (w : World) (hm : s0.size ≤ maxLen) :
    Calls Try.prog 3 #[.string s0, .bool v] w fun e w' => e = .returned (.bool true) ∧ Below w.heap.size w w' := by
  have hf := few2_any s0 w hm
  have hz := fewS_size s0
  obtain ⟨s, hs⟩ : ∃ s, fewS s0 = s := ⟨_, rfl⟩
  rw [hs] at hf hz
  have HF := Lib.hid hf
  obtain ⟨l, hl⟩ : ∃ l, s.data.toList = l := ⟨_, rfl⟩
  have hd := dec_esc v l
  have he := escB_len v l
  have hsl : s.size = l.length := by rw [← hl]; simp
  have ha := escape_any s v w (by omega)
  have hr := fun w => escapeR_any s v w (by omega)
  rw [hl] at ha hr
  obtain ⟨r, hrr⟩ : ∃ r, escB v l = r := ⟨_, rfl⟩
  rw [hrr] at hd he ha hr
  obtain ⟨t, ht, htl, htz⟩ := str_of r
  rw [ht] at ha hr
  have hfin : (⟨(decB t.data.toList).toArray⟩ : ByteArray) = s := by rw [htl, hd, ← hl]
  have htz2 : t.size ≤ 1200 := by omega
  have HA := Lib.hid ha
  have HR := Lib.hid hr
  have HD := Lib.hid hfin
  have e1 : (t.toList == t.toList) = true := by simp
  have e2 : (s.toList == s.toList) = true := by simp
  clear hf hs hl hd he hsl ha hr hrr ht htl htz hfin
  go_enter Try.func3, Try.ntmps3
  go_wp2_with fail
  refine HF.out.mono ?_
  rintro e w1 ⟨rfl, rfl⟩
  go_wp2_with fail
  refine HA.out.mono ?_
  rintro e w1 ⟨rfl, hb1⟩
  go_wp2_with fail
  refine (HR.out _).mono ?_
  rintro e w2 ⟨rfl, rfl⟩
  go_wp2_with fail
  refine (decode_any t _ (by omega)).mono ?_
  rw [HD.out]
  rintro e w2 ⟨rfl, hb2⟩
  have hB2 := below_after hb1 hb2
  go_wp2_with fail
  refine (lives2_any _).mono ?_
  rintro e w3 ⟨rfl, hb3⟩
  have hB3 := below_after hB2 hb3
  go_wp2_with fail
  go_ret
  exact ⟨rfl, hB3⟩

end Go.Proofs.Ytillpoaobcdlmaa
