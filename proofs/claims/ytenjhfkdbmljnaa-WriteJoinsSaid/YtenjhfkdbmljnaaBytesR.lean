/- strainerref01.bytes, Text: their walks. -/
import Derived.Test.YtenjhfkdbmljnaaRunesR
import Derived.Test.YtenjhfkdbmljnaaMemB
namespace Go.Proofs.Ytenjhfkdbmljnaa
open Go.RowKit
set_option linter.unusedVariables false

theorem lit_end (w : World) (r : Int) {cs : Array Value} {n : Nat} (hcs : cs.toList = Lib.runeCells r) (hn : cs.size = n) :
    ∃ A' c', Ending.returned (.slice (some ⟨w.heap.size, 0, none⟩) n n) = .returned (.slice A' (Lib.encodeRune r).length c') ∧ (Lib.encodeRune r).length ≤ c' ∧
      (w.alloc (.cells cs 5)).ownsRow w.heap.size 5 1 (.slice A' (Lib.encodeRune r).length c') (Lib.encodeRune r).length (Lib.byteCells (Lib.encodeRune r)) ∧ Below w.heap.size w (w.alloc (.cells cs 5)) := by
  have hl := Lib.runeCells_le r
  have h1 : (Lib.encodeRune r).length = n := by rw [← Lib.runeCells_length, ← hcs, ← hn]; simp
  refine ⟨_, n, by rw [h1], by omega, ?_, (Below.refl _ _).alloc (Nat.le_refl _) _⟩
  rw [Lib.byteCells_encodeRune, ← hcs, h1]
  rw [Lib.runeCells_length] at hl
  exact own_lit w 5 cs n hn (by unfold maxLen; omega)

set_option maxHeartbeats 1000000 in
set_option maxRecDepth 100000 in
theorem bytes_a (r : Int) (w : World) (h0 : -2147483648 ≤ r) (h1 : r ≤ -1) :
    Calls Try.prog 45 #[.int .i32 r] w fun e w' => ∃ A' c', e = .returned (.slice A' (Lib.encodeRune r).length c') ∧ (Lib.encodeRune r).length ≤ c' ∧
      w'.ownsRow w.heap.size 5 1 (.slice A' (Lib.encodeRune r).length c') (Lib.encodeRune r).length (Lib.byteCells (Lib.encodeRune r)) ∧ Below w.heap.size w w' := by
  go_enter Try.func45, Try.ntmps45
  go_wp2
  go_ret
  exact lit_end w r (by unfold Lib.runeCells; rw [Lib.encodeRuneZ_bad (by omega)]; rfl) rfl

set_option maxHeartbeats 1000000 in
set_option maxRecDepth 100000 in
theorem bytes_b (r : Int) (w : World) (h0 : 0 ≤ r) (h1 : r ≤ 127) :
    Calls Try.prog 45 #[.int .i32 r] w fun e w' => ∃ A' c', e = .returned (.slice A' (Lib.encodeRune r).length c') ∧ (Lib.encodeRune r).length ≤ c' ∧
      w'.ownsRow w.heap.size 5 1 (.slice A' (Lib.encodeRune r).length c') (Lib.encodeRune r).length (Lib.byteCells (Lib.encodeRune r)) ∧ Below w.heap.size w w' := by
  go_enter Try.func45, Try.ntmps45
  go_wp2
  go_ret
  exact lit_end w r (by unfold Lib.runeCells; rw [Lib.encodeRuneZ_one (by omega) (by omega)]; rfl) rfl

set_option maxHeartbeats 1000000 in
set_option maxRecDepth 100000 in
theorem bytes_c (r : Int) (w : World) (h0 : 128 ≤ r) (h1 : r ≤ 2047) :
    Calls Try.prog 45 #[.int .i32 r] w fun e w' => ∃ A' c', e = .returned (.slice A' (Lib.encodeRune r).length c') ∧ (Lib.encodeRune r).length ≤ c' ∧
      w'.ownsRow w.heap.size 5 1 (.slice A' (Lib.encodeRune r).length c') (Lib.encodeRune r).length (Lib.byteCells (Lib.encodeRune r)) ∧ Below w.heap.size w w' := by
  go_enter Try.func45, Try.ntmps45
  go_wp2
  go_ret
  exact lit_end w r (by unfold Lib.runeCells; rw [Lib.encodeRuneZ_two (by omega) (by omega)]; rfl) rfl

set_option maxHeartbeats 1000000 in
set_option maxRecDepth 100000 in
theorem bytes_d (r : Int) (w : World) (h0 : 2048 ≤ r) (h1 : r ≤ 55295) :
    Calls Try.prog 45 #[.int .i32 r] w fun e w' => ∃ A' c', e = .returned (.slice A' (Lib.encodeRune r).length c') ∧ (Lib.encodeRune r).length ≤ c' ∧
      w'.ownsRow w.heap.size 5 1 (.slice A' (Lib.encodeRune r).length c') (Lib.encodeRune r).length (Lib.byteCells (Lib.encodeRune r)) ∧ Below w.heap.size w w' := by
  go_enter Try.func45, Try.ntmps45
  go_wp2
  go_ret
  exact lit_end w r (by unfold Lib.runeCells; rw [Lib.encodeRuneZ_three (by omega)]; rfl) rfl

set_option maxHeartbeats 1000000 in
set_option maxRecDepth 100000 in
theorem bytes_e (r : Int) (w : World) (h0 : 55296 ≤ r) (h1 : r ≤ 57343) :
    Calls Try.prog 45 #[.int .i32 r] w fun e w' => ∃ A' c', e = .returned (.slice A' (Lib.encodeRune r).length c') ∧ (Lib.encodeRune r).length ≤ c' ∧
      w'.ownsRow w.heap.size 5 1 (.slice A' (Lib.encodeRune r).length c') (Lib.encodeRune r).length (Lib.byteCells (Lib.encodeRune r)) ∧ Below w.heap.size w w' := by
  go_enter Try.func45, Try.ntmps45
  go_wp2
  go_ret
  exact lit_end w r (by unfold Lib.runeCells; rw [Lib.encodeRuneZ_bad (by omega)]; rfl) rfl

set_option maxHeartbeats 1000000 in
set_option maxRecDepth 100000 in
theorem bytes_f (r : Int) (w : World) (h0 : 57344 ≤ r) (h1 : r ≤ 65535) :
    Calls Try.prog 45 #[.int .i32 r] w fun e w' => ∃ A' c', e = .returned (.slice A' (Lib.encodeRune r).length c') ∧ (Lib.encodeRune r).length ≤ c' ∧
      w'.ownsRow w.heap.size 5 1 (.slice A' (Lib.encodeRune r).length c') (Lib.encodeRune r).length (Lib.byteCells (Lib.encodeRune r)) ∧ Below w.heap.size w w' := by
  go_enter Try.func45, Try.ntmps45
  go_wp2
  go_ret
  exact lit_end w r (by unfold Lib.runeCells; rw [Lib.encodeRuneZ_three (by omega)]; rfl) rfl

set_option maxHeartbeats 1000000 in
set_option maxRecDepth 100000 in
theorem bytes_g (r : Int) (w : World) (h0 : 65536 ≤ r) (h1 : r ≤ 1114111) :
    Calls Try.prog 45 #[.int .i32 r] w fun e w' => ∃ A' c', e = .returned (.slice A' (Lib.encodeRune r).length c') ∧ (Lib.encodeRune r).length ≤ c' ∧
      w'.ownsRow w.heap.size 5 1 (.slice A' (Lib.encodeRune r).length c') (Lib.encodeRune r).length (Lib.byteCells (Lib.encodeRune r)) ∧ Below w.heap.size w w' := by
  go_enter Try.func45, Try.ntmps45
  go_wp2
  go_ret
  exact lit_end w r (by unfold Lib.runeCells; rw [Lib.encodeRuneZ_four (by omega) (by omega)]; rfl) rfl

set_option maxHeartbeats 1000000 in
set_option maxRecDepth 100000 in
theorem bytes_h (r : Int) (w : World) (h0 : 1114112 ≤ r) (h1 : r ≤ 2147483647) :
    Calls Try.prog 45 #[.int .i32 r] w fun e w' => ∃ A' c', e = .returned (.slice A' (Lib.encodeRune r).length c') ∧ (Lib.encodeRune r).length ≤ c' ∧
      w'.ownsRow w.heap.size 5 1 (.slice A' (Lib.encodeRune r).length c') (Lib.encodeRune r).length (Lib.byteCells (Lib.encodeRune r)) ∧ Below w.heap.size w w' := by
  go_enter Try.func45, Try.ntmps45
  go_wp2
  go_ret
  exact lit_end w r (by unfold Lib.runeCells; rw [Lib.encodeRuneZ_bad (by omega)]; rfl) rfl

theorem bytes_any (r : Int) (w : World) (h0 : -2147483648 ≤ r) (h1 : r ≤ 2147483647) :
    Calls Try.prog 45 #[.int .i32 r] w fun e w' => ∃ A' c', e = .returned (.slice A' (Lib.encodeRune r).length c') ∧ (Lib.encodeRune r).length ≤ c' ∧
      w'.ownsRow w.heap.size 5 1 (.slice A' (Lib.encodeRune r).length c') (Lib.encodeRune r).length (Lib.byteCells (Lib.encodeRune r)) ∧ Below w.heap.size w w' := by
  by_cases aa : r ≤ -1
  · exact bytes_a r w (by omega) aa
  by_cases ab : r ≤ 127
  · exact bytes_b r w (by omega) ab
  by_cases ac : r ≤ 2047
  · exact bytes_c r w (by omega) ac
  by_cases ad : r ≤ 55295
  · exact bytes_d r w (by omega) ad
  by_cases ae : r ≤ 57343
  · exact bytes_e r w (by omega) ae
  by_cases af : r ≤ 65535
  · exact bytes_f r w (by omega) af
  by_cases ag : r ≤ 1114111
  · exact bytes_g r w (by omega) ag
  exact bytes_h r w (by omega) h1

theorem info_byte : (Try.prog.info? 5).map (fun i => (i.zero, i.size, i.bytes)) = some (some (.int .u8 0), 1, 1) := by kernel_rfl

end Go.Proofs.Ytenjhfkdbmljnaa
