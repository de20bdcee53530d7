/- strainerlaw01.few, lives: their walks. -/
import Derived.Test.YtgkbgcaajfjjpaaIs
import Derived.Test.YtgkbgcaajfjjpaaFold
import Derived.Test.YtgkbgcaajfjjpaaMemB
namespace Go.Proofs.Ytgkbgcaajfjjpaa
open Go.RowKit
set_option linter.unusedVariables false

theorem ex_right : (⟨(right [97, 13, 10, 98, 255]).toArray⟩ : ByteArray) = ⟨#[97, 10, 98, 239, 191, 189]⟩ := by
  have : right [97, 13, 10, 98, 255] = [97, 10, 98, 239, 191, 189] := by decide +kernel
  rw [this]
theorem ex_fold : (⟨((⟨#[97, 90]⟩ : ByteArray).data.toList.map lowB).toArray⟩ : ByteArray) = ⟨#[97, 122]⟩ := by
  have : (⟨#[97, 90]⟩ : ByteArray).data.toList.map lowB = [97, 122] := by decide +kernel
  rw [this]
theorem ex_is : isB (⟨#[97]⟩ : ByteArray).data.toList = true := by decide +kernel

set_option maxHeartbeats 1000000 in
set_option maxRecDepth 100000 in
theorem lives_any (w : World) : Calls Try.prog 13 #[] w fun e w' => e = .returned (.bool true) ∧ Below w.heap.size w w' := by
  go_enter Try.func13, Try.ntmps13
  go_wp2_with fail
  refine (right_any (some ⟨w.heap.size, 0, none⟩) 5 [97, 13, 10, 98, 255] _ ?_ (by simp)).mono ?_
  · intro _
    refine ⟨w.heap.size, 0, rfl, by simp, fun j u hu => ?_⟩
    rw [World.cell?_alloc_mark, Nat.zero_add]
    simpa [Lib.byteCells] using hu
  rw [ex_right]
  rintro e w1 ⟨rfl, hb1⟩
  have hB1 : Below w.heap.size w w1 := below_after ((Below.refl _ w).alloc (Nat.le_refl _) _) hb1
  clear hb1
  go_wp2_with fail
  refine (fold_any ⟨#[97, 90]⟩ _ (by decide)).mono ?_
  rw [ex_fold]
  rintro e w2 ⟨rfl, hb2⟩
  have hB2 := below_after hB1 hb2
  clear hB1 hb2
  go_wp2_with fail
  refine (is_any ⟨#[97]⟩ _ (by decide)).mono ?_
  rw [ex_is]
  rintro e w3 ⟨rfl, hb3⟩
  have hB3 := below_after hB2 hb3
  clear hB2 hb3
  go_wp2_with fail
  go_ret
  exact ⟨rfl, hB3⟩

end Go.Proofs.Ytgkbgcaajfjjpaa
