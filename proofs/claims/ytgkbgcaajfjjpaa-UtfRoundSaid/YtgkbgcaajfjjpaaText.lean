/- utf.Text: its walk. -/
import Derived.Test.YtgkbgcaajfjjpaaBytesR
import Derived.Test.YtgkbgcaajfjjpaaShelf
namespace Go.Proofs.Ytgkbgcaajfjjpaa
open Go.RowKit
set_option linter.unusedVariables false

set_option maxHeartbeats 1000000 in
set_option maxRecDepth 100000 in
theorem text_any (A : Option Addr) (c : Nat) (l : List Int) (w : World) (hs : Sits w w.heap.size A (rcells l)) (hm : l.length ≤ 1000000) (h32 : i32s l) :
    Calls Try.prog 14 #[.slice A l.length c] w fun e w' => e = .returned (.string ⟨(enc l).toArray⟩) ∧ Below w.heap.size w w' := by
  have HS := Lib.hid hs
  have H32 := Lib.hid h32
  clear hs h32
  go_enter Try.func14, Try.ntmps14
  go_wp2_with fail
  refine (Try.Builder_Grow_fresh w.heap.size w.heap.size l.length _ (Nat.le_refl _) (heap_alloc_new w _) (by simp) (by omega)).mono ?_
  rintro e w1 ⟨rfl, hbu, hb1⟩
  have hB1 : Below w.heap.size w w1 := ((Below.refl _ w).alloc (Nat.le_refl _) _).trans hb1
  have hI1 : Lib.IsBuilderF 42 5 w.heap.size w.heap.size (Lib.byteCells []) w1 := Lib.IsBuilderF.of (Or.inr hbu)
  clear hbu hb1
  go_wp2_with fail
  go_loopw [11] (fun i wr => ∃ (k : Nat) (acc : List UInt8), k ≤ l.length ∧ i = .int .i64 k ∧ Hid (enc l = acc ++ enc (l.drop k)) ∧ acc.length ≤ 4 * k ∧ Lib.IsBuilderF 42 5 w.heap.size w.heap.size (Lib.byteCells acc) wr ∧ Below w.heap.size w wr) (fun i _ => l.length - (intOf i).toNat)
  case atStart => exact ⟨0, [], by omega, rfl, Lib.hid (by simp), by simp, hI1, hB1⟩
  case round =>
    obtain ⟨k, acc, hk, rfl, HR, hal, hI, hbel⟩ := hrel
    by_cases hlt : k < l.length
    · obtain ⟨b, o, rfl, hb, hcell⟩ := HS.out.open_ (by rw [rcells_length]; omega)
      obtain ⟨x, hx⟩ : ∃ x, l[k]? = some x := ⟨_, List.getElem?_eq_getElem hlt⟩
      have q1 : wr.cell? ⟨b, o + k, none⟩ = some (.int .i32 x) := (hbel.cell (p := ⟨b, o + k, none⟩) hb).trans (hcell k _ (by simp [rcells, hx]))
      have hx32 := i32s_at H32.out hx
      have HX := Lib.hid hx
      clear hcell hx
      go_wp2_with fail
      refine (Try.Builder_WriteRune_k w.heap.size w.heap.size _ x hx32.1 hx32.2 _ hI (by rw [Lib.byteCells_length]; omega) hbel.size).mono ?_
      rintro e w2 ⟨rfl, hI2, hb2, _⟩
      have hB2 := hbel.trans hb2
      have hl4 := Lib.runeCells_le x
      clear hI hb2
      go_wp2
      go_roundw
      case rel =>
        refine ⟨k + 1, acc ++ Lib.encodeRune x, by omega, by go_num, Lib.hid ?_, ?_, ?_, hB2⟩
        · rw [HR.out, drop_at HX.out, enc_cons, List.append_assoc]
        · rw [Lib.runeCells_length] at hl4
          simp
          omega
        · rw [Lib.byteCells_append, Lib.byteCells_encodeRune]
          exact Or.inr hI2
      case measure => simp [intOf]; omega
    · have hr : enc l = acc := by
        have := HR.out
        rw [List.drop_of_length_le (by omega), enc_nil, List.append_nil] at this
        exact this
      have HRR := Lib.hid hr
      clear hr
      go_wp2_with fail
      refine (Try.Builder_String_any_k w.heap.size w.heap.size acc _ hI hbel.size).mono ?_
      rintro e w2 ⟨rfl, _, hb2, _⟩
      have hB2 := hbel.trans hb2
      go_wp2
      go_ret
      rw [HRR.out]
      exact ⟨rfl, hB2⟩

end Go.Proofs.Ytgkbgcaajfjjpaa
