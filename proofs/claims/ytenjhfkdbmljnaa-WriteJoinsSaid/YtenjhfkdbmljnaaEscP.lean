/- refs.Escape: its walk. -/
import Derived.Test.YtenjhfkdbmljnaaWritten
import Derived.Test.YtenjhfkdbmljnaaMemC
import Derived.Test.YtenjhfkdbmljnaaMemB
import Derived.Test.YtenjhfkdbmljnaaShelf
import Derived.Lib.Strings
namespace Go.Proofs.Ytenjhfkdbmljnaa
open Go.RowKit
set_option linter.unusedVariables false

structure EscAt (w wr : World) (s : ByteArray) (l acc : List UInt8) (v : Bool) (f k : Nat) : Prop where
  fk : f ≤ k
  le : k ≤ l.length
  is : escB v (l.take k) = acc ++ (l.drop f).take (k - f)
  len : acc.length ≤ 6 * k
  room : acc.length + (k - f) ≤ 6 * k
  bu : Lib.IsBuilderF 58 5 w.heap.size w.heap.size (Lib.byteCells acc) wr
  bel : Below w.heap.size w wr

theorem mid_snoc {l : List UInt8} {f k : Nat} {c : UInt8} (h : l[k]? = some c) (hf : f ≤ k) : (l.drop f).take (k + 1 - f) = (l.drop f).take (k - f) ++ [c] := by
  rw [show k + 1 - f = (k - f) + 1 by omega]
  apply take_snoc'
  rw [List.getElem?_drop, show f + (k - f) = k by omega]
  exact h

set_option maxHeartbeats 4000000 in
set_option maxRecDepth 100000 in
theorem escape_wide (s : ByteArray) (v : Bool) (w : World) (hm : s.size ≤ 200000) :
    Calls Try.prog 42 #[.string s, .bool v] w fun e w' => e = .returned (.string ⟨(escB v s.data.toList).toArray⟩) ∧ Below w.heap.size w w' := by
  obtain ⟨l, hl⟩ : ∃ l, s.data.toList = l := ⟨_, rfl⟩
  have hsz : s.size = l.length := by rw [← hl]; simp
  have HSL := Lib.hid hl
  have HSZ := Lib.hid hsz
  have hll : l.length ≤ 200000 := by omega
  have hat : ∀ k, (h : k < s.size) → l[k]? = some s[k] := by
    intro k h
    rw [← hl, List.getElem?_eq_getElem (by simpa using h)]
    rw [at_data s k h]
  have HAT := Lib.hid hat
  rw [hl]
  clear hl hsz hat
  go_enter Try.func42, Try.ntmps42
  go_wp2_with fail
  refine (Try.Builder_Grow_fresh w.heap.size w.heap.size s.size _ (Nat.le_refl _) (heap_alloc_new w _) (by simp) (by omega)).mono ?_
  rintro e w2 ⟨rfl, hbu, hb2⟩
  have hB2 : Below w.heap.size w w2 := ((Below.refl _ w).alloc (Nat.le_refl _) _).trans hb2
  have hI2 : Lib.IsBuilderF 58 5 w.heap.size w.heap.size (Lib.byteCells []) w2 := Lib.IsBuilderF.of (Or.inr hbu)
  clear hbu hb2
  go_wp2_with fail
  go_loopw [6, 14] (fun x y wr => ∃ (f k : Nat) (acc : List UInt8), x = .int .i64 f ∧ y = .int .i64 k ∧ EscAt w wr s l acc v f k) (fun _ y _ => s.size - (intOf y).toNat)
  case atStart => exact ⟨0, 0, [], rfl, rfl, by omega, by omega, by simp [escB_nil], by simp, by simp, hI2, hB2⟩
  case round =>
    obtain ⟨f, k, acc, rfl, rfl, HR⟩ := hrel
    have hfk := HR.fk
    have hle := HR.le
    have hlen := HR.len
    by_cases hlt : k < s.size
    · have hgk := HAT.out k hlt
      obtain ⟨c, hc⟩ : ∃ c, s[k] = c := ⟨_, rfl⟩
      rw [hc] at hgk
      have HG := Lib.hid hgk
      have HC := Lib.hid hc
      have hwl := wrB_len v c
      obtain ⟨q, hq⟩ : ∃ q, (wrB v c).isEmpty = q := ⟨_, rfl⟩
      have hmid : (s.extract f k).data.toList = (l.drop f).take (k - f) := by rw [mid_extract, HSL.out]
      have HM := Lib.hid hmid
      have hmz : (s.extract f k).size = k - f := by rw [ByteArray.size_extract]; omega
      have HMZ := Lib.hid hmz
      clear hgk hc hmid hmz
      cases q with
      | true =>
        have hnil : wrB v c = [] := List.isEmpty_iff.1 hq
        have HW := Lib.hid (wrC_same hnil)
        clear hnil
        go_wp2_with fail
        refine (written_ref _ v _).mono ?_
        rw [HC.out]
        rintro e w3 ⟨rfl, rfl⟩
        go_wp2_with fail
        go_roundw
        case rel =>
          refine ⟨f, k + 1, acc, rfl, by go_num, by omega, by have := HSZ.out; omega, ?_, by omega, by have := HR.room; omega, HR.bu, HR.bel⟩
          rw [take_snoc' HG.out, escB_append, HR.is, escB_cons, escB_nil, HW.out, mid_snoc HG.out hfk, List.append_assoc, List.append_nil]
        case measure => simp [intOf]; omega
      | false =>
        have hne : wrB v c ≠ [] := fun e => by rw [e] at hq; cases hq
        have HW := Lib.hid (wrC_other hne)
        clear hne
        have hfi : (0 : Int) ≤ (f : Int) ∧ (f : Int) ≤ (k : Int) ∧ (k : Int) ≤ (s.size : Int) := by omega
        obtain ⟨hf1, hf2, hf3⟩ := hfi
        go_wp2_with fail
        refine (written_ref _ v _).mono ?_
        rw [HC.out]
        rintro e w3 ⟨rfl, rfl⟩
        go_wp2_with fail
        refine (Try.Builder_WriteString_k w.heap.size w.heap.size _ (s.extract f k) _ HR.bu (by rw [Lib.byteCells_length, HMZ.out]; omega) HR.bel.size).mono ?_
        rintro e w4 ⟨rfl, h4, b4, _⟩
        have hB4 := HR.bel.trans b4
        rw [Lib.strCells_eq, HM.out, ← Lib.byteCells_append] at h4
        have H4 := Lib.hid h4
        clear h4 b4
        go_wp2_with fail
        refine (Try.Builder_WriteString_k w.heap.size w.heap.size _ ⟨(wrB v c).toArray⟩ _ (Or.inr H4.out) (by rw [Lib.byteCells_length, List.length_append, List.length_take]; show _ + (wrB v c).length ≤ _; omega) hB4.size).mono ?_
        rintro e w5 ⟨rfl, h5, b5, _⟩
        have hB5 := hB4.trans b5
        rw [Lib.strCells_eq, ← Lib.byteCells_append] at h5
        have H5 := Lib.hid h5
        clear h5 b5
        go_wp2_with fail
        go_roundw
        case rel =>
          refine ⟨k + 1, k + 1, acc ++ (l.drop f).take (k - f) ++ wrB v c, by go_num, by go_num, by omega, by have := HSZ.out; omega, ?_, ?_, ?_, Or.inr H5.out, hB5⟩
          · rw [take_snoc' HG.out, escB_append, HR.is, escB_cons, escB_nil, HW.out]
            simp
          · rw [List.length_append, List.length_append, List.length_take]
            have := HR.room
            omega
          · rw [List.length_append, List.length_append, List.length_take]
            have := HR.room
            omega
        case measure => simp [intOf]; omega
    · have hk : k = s.size := by have := HSZ.out; omega
      have hmid : (s.extract f s.size).data.toList = l.drop f := by rw [drop_extract, HSL.out]
      have hmz : (s.extract f s.size).size ≤ 200000 := by rw [ByteArray.size_extract]; omega
      have HM := Lib.hid hmid
      have HF := Lib.hid (show escB v l = acc ++ l.drop f by
        have := HR.is
        rw [List.take_of_length_le (by have := HSZ.out; omega), List.take_of_length_le (by rw [List.length_drop]; have := HSZ.out; omega)] at this
        exact this)
      have hf1 : (f : Int) ≤ (s.size : Int) := by omega
      clear hmid hk
      go_wp2_with fail
      refine (Try.Builder_WriteString_k w.heap.size w.heap.size _ (s.extract f s.size) _ HR.bu (by rw [Lib.byteCells_length]; omega) HR.bel.size).mono ?_
      rintro e w4 ⟨rfl, h4, b4, _⟩
      have hB4 := HR.bel.trans b4
      rw [Lib.strCells_eq, HM.out, ← Lib.byteCells_append] at h4
      go_wp2_with fail
      refine (Try.Builder_String_any_k w.heap.size w.heap.size _ _ (Or.inr h4) hB4.size).mono ?_
      rintro e w5 ⟨rfl, _, b5, _⟩
      have hB5 := hB4.trans b5
      go_wp2_with fail
      go_ret
      rw [HF.out]
      exact ⟨rfl, hB5⟩

theorem escape_any (s : ByteArray) (v : Bool) (w : World) (hm : s.size ≤ 100000) :
    Calls Try.prog 42 #[.string s, .bool v] w fun e w' => e = .returned (.string ⟨(escB v s.data.toList).toArray⟩) ∧ Below w.heap.size w w' := escape_wide s v w (by omega)

end Go.Proofs.Ytenjhfkdbmljnaa
