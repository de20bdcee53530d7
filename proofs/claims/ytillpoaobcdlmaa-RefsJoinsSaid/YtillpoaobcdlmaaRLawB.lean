/- strainerlaw02.RefsJoins, RefsRight: their walks. -/
import Derived.Test.YtillpoaobcdlmaaRLawA
import Derived.Test.YtillpoaobcdlmaaRightR
import Derived.Laws.Concat
namespace Go.Proofs.Ytillpoaobcdlmaa
open Go.RowKit
set_option linter.unusedVariables false

set_option maxHeartbeats 2000000 in
theorem refsJoins_end (a0 b0 : ByteArray) (v : Bool) (w : World) (hma : a0.size ≤ maxLen) (hmb : b0.size ≤ maxLen) :
    Calls Try.prog 6 #[.string a0, .string b0, .bool v] w fun e w' => e = .returned (.bool true) ∧ Below w.heap.size w w' := by
  unfold maxLen at hma hmb
  have key : ∀ a b : ByteArray, a.size ≤ 100 → b.size ≤ 100 → ∃ r q : ByteArray, r.size ≤ 600 ∧ q.size ≤ 600 ∧ (⟨(escB v a.data.toList).toArray⟩ : ByteArray) = r ∧ (⟨(escB v b.data.toList).toArray⟩ : ByteArray) = q ∧
      (⟨(escB v (a ++ b).data.toList).toArray⟩ : ByteArray) = r ++ q ∧ (⟨(decB (r ++ q).data.toList).toArray⟩ : ByteArray) = a ++ b := by
    intro a b ha hb
    have h1 := escB_len v a.data.toList
    have h2 := escB_len v b.data.toList
    rw [← str_list] at h1 h2
    have hl : ∀ x y : ByteArray, (x ++ y).data.toList = x.data.toList ++ y.data.toList := fun x y => by rw [ByteArray.data_append, Array.toList_append]
    have hmk : ∀ x : ByteArray, (⟨x.data.toList.toArray⟩ : ByteArray) = x := fun x => rfl
    refine ⟨_, _, ?_, ?_, rfl, rfl, ?_, ?_⟩
    · show (escB v a.data.toList).length ≤ 600; omega
    · show (escB v b.data.toList).length ≤ 600; omega
    · rw [hl, escB_append]
      rw [← hmk (_ ++ _), hl]
    · rw [hl]
      show (⟨(decB (escB v a.data.toList ++ escB v b.data.toList)).toArray⟩ : ByteArray) = _
      rw [← escB_append, dec_esc, ← hl]
  have ka : ∀ x : ByteArray, x.size ≤ 9223372036854775807 → (x.size ≤ 100 ∧ (100 : Int) ≥ x.size) ∨ (100 < x.size ∧ (x.extract 0 100).size ≤ 100) := by
    intro x _
    by_cases h : 100 < x.size
    · exact .inr ⟨h, by rw [ByteArray.size_extract]; omega⟩
    · exact .inl ⟨by omega, by omega⟩
  rcases ka a0 hma with ⟨ha, ha'⟩ | ⟨ha, ha'⟩ <;> rcases ka b0 hmb with ⟨hb, hb'⟩ | ⟨hb, hb'⟩
  case' inl.inl => have hk := key a0 b0 ha hb; have hza := ha; have hzb := hb
  case' inl.inr => have hk := key a0 (b0.extract 0 100) ha hb'; have hza := ha; have hzb := hb'
  case' inr.inl => have hk := key (a0.extract 0 100) b0 ha' hb; have hza := ha'; have hzb := hb
  case' inr.inr => have hk := key (a0.extract 0 100) (b0.extract 0 100) ha' hb'; have hza := ha'; have hzb := hb'
  all_goals
    clear key ka
    obtain ⟨r, q, hr, hq, e1, e2, e3, e4⟩ := hk
    have E1 := Lib.hid e1
    have E2 := Lib.hid e2
    have E3 := Lib.hid e3
    have E4 := Lib.hid e4
    have hrq : r.size + q.size ≤ 1200 := by omega
    have hn1 : ¬ (r.size + q.size > 9223372036854775807) := by omega
    clear e1 e2 e3 e4
    go_enter Try.func6, Try.ntmps6
    go_wp2_with fail
    refine (escape_any _ v _ (by omega)).mono ?_
    rw [E1.out]
    rintro e w1 ⟨rfl, hb1⟩
    go_wp2_with fail
    refine (escape_any _ v _ (by omega)).mono ?_
    rw [E2.out]
    rintro e w2 ⟨rfl, hb2⟩
    have hB2 := below_after hb1 hb2
    clear hb1 hb2
    go_wp2_with fail
    refine (escape_any _ v _ (by rw [ByteArray.size_append]; omega)).mono ?_
    rw [E3.out]
    rintro e w3 ⟨rfl, hb3⟩
    have hB3 := below_after hB2 hb3
    clear hB2 hb3
    go_wp2_with fail
    refine (decode_any _ _ (by rw [ByteArray.size_append]; omega)).mono ?_
    rw [E4.out]
    rintro e w4 ⟨rfl, hb4⟩
    have hB4 := below_after hB3 hb4
    clear hB3 hb4
    go_wp2_with fail
    refine (lives2_any _).mono ?_
    rintro e w5 ⟨rfl, hb5⟩
    have hB5 := below_after hB4 hb5
    go_wp2_with fail
    go_ret
    exact ⟨rfl, hB5⟩

end Go.Proofs.Ytillpoaobcdlmaa
