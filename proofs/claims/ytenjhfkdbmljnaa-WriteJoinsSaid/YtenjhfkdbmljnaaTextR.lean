/- strainerref01.Text: its walk. -/
import Derived.Test.YtenjhfkdbmljnaaBytesR
namespace Go.Proofs.Ytenjhfkdbmljnaa
open Go.RowKit
set_option linter.unusedVariables false

set_option maxHeartbeats 1000000 in
set_option maxRecDepth 100000 in
theorem textR_any (A : Option Addr) (c : Nat) (l : List Int) (w : World) (hs : Sits w w.heap.size A (rcells l)) (hc : l.length ≤ c) (hm : l.length ≤ 1000000) (h32 : i32s l) :
    Calls Try.prog 31 #[.slice A l.length c] w fun e w' => e = .returned (.string ⟨(enc l).toArray⟩) ∧ Below w.heap.size w w' := by
  obtain ⟨i0, hi, hz0, hz1, hz2⟩ := info_parts info_byte
  have HS := Lib.hid hs
  have H32 := Lib.hid h32
  clear hs h32
  go_enter Try.func31, Try.ntmps31
  go_wp2
  go_loopw [3, 4] (fun v i wr => ∃ (k : Nat) (acc : List UInt8), k ≤ l.length ∧ i = .int .i64 k ∧ Hid (enc l = acc ++ enc (l.drop k)) ∧ acc.length ≤ 4 * k ∧ wr.ownsRow w.heap.size 5 1 v acc.length (Lib.byteCells acc) ∧ Below w.heap.size w wr) (fun _ i _ => l.length - (intOf i).toNat)
  case atStart => exact ⟨0, [], by omega, rfl, Lib.hid (by simp), by simp, World.ownsRow_nil _ _ _ _, Below.refl _ _⟩
  case round =>
    obtain ⟨k, acc, hk, rfl, HR, hal, hown, hbel⟩ := hrel
    by_cases hlt : k < l.length
    · obtain ⟨b, o, rfl, hb, hcell⟩ := HS.out.open_ (by rw [rcells_length]; omega)
      obtain ⟨x, hx⟩ : ∃ x, l[k]? = some x := ⟨_, List.getElem?_eq_getElem hlt⟩
      have q1 : wr.cell? ⟨b, o + k, none⟩ = some (.int .i32 x) := (hbel.cell (p := ⟨b, o + k, none⟩) hb).trans (hcell k _ (by simp [rcells, hx]))
      have hx32 := i32s_at H32.out hx
      have HX := Lib.hid hx
      clear hcell hx
      go_wp2_with fail
      refine (bytes_any x wr hx32.1 hx32.2).mono ?_
      rintro e w1 ⟨A1, c1, rfl, hcc, hown1, hb1⟩
      have hl4 := Lib.runeCells_le x
      rw [Lib.runeCells_length] at hl4
      obtain ⟨g, rfl, hnews⟩ := own_addr hown1 (by omega)
      have hown2 := own_below hown hb1
      have hB1 := below_after hbel hb1
      clear hown1 hown hb1 q1
      obtain ⟨m, hm'⟩ : ∃ m, m = (Lib.encodeRune x).length := ⟨_, rfl⟩
      rw [← hm'] at hcc hl4 ⊢
      have HM := Lib.hid hm'
      clear hm'
      go_wp2_with (at_builtin; refine wpList_append_own _ rfl _ _ 38 rfl w.heap.size 5 i0 (.int .u8 0) 1 1 Try.underlying38 hi hz0 hz1 hz2 rfl (by decide) _ _ _ rfl hown2 ⟨g, 0, none⟩ m c1 (Lib.byteCells (Lib.encodeRune x)) rfl (by rw [Lib.byteCells_length, HM.out]; omega) hnews (byteCells_one _) (by unfold maxLen; omega) (by omega) hB1.size ?_; intro v' w2 hown' hgrow _)
      have hB2 : Below w.heap.size w w2 := hB1.grown hgrow hB1.size (fun g hg => (hown2.lt g hg).1)
      clear hgrow hown2 hnews
      go_roundw
      case rel =>
        refine ⟨k + 1, acc ++ Lib.encodeRune x, by omega, by go_num, Lib.hid ?_, by have := HM.out; simp; omega, ?_, hB2⟩
        · rw [HR.out, drop_at HX.out, enc_cons, List.append_assoc]
        · rw [Lib.byteCells_append, List.length_append, ← HM.out]
          exact hown'
      case measure => simp [intOf]; omega
    · have hr : enc l = acc := by
        have := HR.out
        rw [List.drop_of_length_le (by omega), enc_nil, List.append_nil] at this
        exact this
      obtain ⟨A', c', rfl, hcc⟩ := own_shape hown
      have HRR := Lib.hid hr
      clear hr
      have kc := convert_bytes (A := A') (c := c') (B := wr.heap.size) (Sits.own hown)
      go_wp2
      go_ret
      rw [HRR.out]
      exact ⟨rfl, hbel⟩

end Go.Proofs.Ytenjhfkdbmljnaa
