/- utf.Right: its walk. -/
import Derived.Test.YtgkbgcaajfjjpaaBytesR
import Derived.Test.YtgkbgcaajfjjpaaShelf
import Derived.BigCall
namespace Go.Proofs.Ytgkbgcaajfjjpaa
open Go.RowKit
set_option linter.unusedVariables false

theorem norm_13 (a : Int) (t : List Int) : norm a (13 :: t) = 10 :: norm 13 t := by simp [norm]
theorem norm_10 (t : List Int) : norm 13 (10 :: t) = norm 10 t := by simp [norm]
theorem norm_0 (a : Int) (t : List Int) : norm a (0 :: t) = 65533 :: norm 0 t := by simp [norm]
theorem norm_r {a r : Int} (t : List Int) (h1 : r ≠ 13) (h2 : ¬ (r = 10 ∧ a = 13)) (h3 : r ≠ 0) : norm a (r :: t) = r :: norm r t := by
  show (if r = 13 then [10] else if r = 10 ∧ a = 13 then [] else if r = 0 then [65533] else [r]) ++ norm r t = _
  rw [if_neg h1, if_neg h2, if_neg h3]
  rfl

theorem cells_snoc (acc : List Int) (r : Int) : Lib.byteCells (enc (acc ++ [r])) = Lib.byteCells (enc acc) ++ Lib.runeCells r := by
  rw [enc_append, Lib.byteCells_append, ← Lib.byteCells_encodeRune]
  simp [enc]

theorem enc_snoc_le (acc : List Int) {n : Nat} (h : acc.length ≤ n) : (enc acc).length ≤ 4 * n := by
  have := enc_len acc
  omega

/-- What holds at a round's head: the builder, the place in the text, the rest. -/
structure RightAt (w wr : World) (s : ByteArray) (l : List UInt8) (Bi pos : Nat) (a : Int) (acc : List Int) : Prop where
  le : pos ≤ l.length
  is : norm 0 (runes l) = acc ++ norm a (runes (l.drop pos))
  len : acc.length ≤ pos
  bu : Lib.IsBuilderF 42 5 w.heap.size w.heap.size (Lib.byteCells (enc acc)) wr
  it : wr.heap[Bi]? = some (.stringIter s pos)
  bel : Below w.heap.size w wr

set_option maxHeartbeats 1000000 in
set_option maxRecDepth 100000 in
theorem right_any (A : Option Addr) (c : Nat) (l : List UInt8) (w : World) (hs : Sits w w.heap.size A (Lib.byteCells l)) (hm : l.length ≤ 1000000) :
    Calls Try.prog 16 #[.slice A l.length c] w fun e w' => e = .returned (.string ⟨(right l).toArray⟩) ∧ Below w.heap.size w w' := by
  have HS := Lib.hid hs
  clear hs
  go_enter Try.func16, Try.ntmps16
  go_wp2_with fail
  refine (Try.Builder_Grow_fresh w.heap.size w.heap.size l.length _ (Nat.le_refl _) (heap_alloc_new w _) (by simp) (by omega)).mono ?_
  rintro e w1 ⟨rfl, hbu, hb1⟩
  have hz1 : w.heap.size < w1.heap.size := by have := hb1.size; simp at this; omega
  have hB1 : Below w.heap.size w w1 := ((Below.refl _ w).alloc (Nat.le_refl _) _).trans hb1
  have hI1 : Lib.IsBuilderF 42 5 w.heap.size w.heap.size (Lib.byteCells (enc [])) w1 := Lib.IsBuilderF.of (Or.inr hbu)
  clear hbu hb1
  have kc := convert_bytes (c := c) (HS.out.below hB1)
  obtain ⟨s, hs⟩ : ∃ s : ByteArray, s = ⟨l.toArray⟩ := ⟨_, rfl⟩
  rw [← hs] at kc
  have hsl : s.data.toList = l := by rw [hs]
  have hsz : s.size = l.length := by rw [hs]; rfl
  have HSL := Lib.hid hsl
  have HSZ := Lib.hid hsz
  clear hs hsl hsz
  go_wp2_with fail
  go_loopw [4] (fun a wr => ∃ (pos : Nat) (x : Int) (acc : List Int), a = .int .i32 x ∧ RightAt w wr s l w1.heap.size pos x acc) (fun _ wr => s.size - wr.iterPos w1.heap.size)
  case atStart =>
    refine ⟨0, 0, [], rfl, by omega, by simp, by simp, ?_, World.iter_heap w1 s 0, ?_⟩
    · exact hI1.alloc _
    · exact hB1.alloc hB1.size _
  case round =>
    obtain ⟨pos, x, acc, rfl, HR⟩ := hrel
    have hit := HR.it
    have hle := HR.le
    have hlen := HR.len
    have hzr : w1.heap.size < wr.heap.size := (Array.getElem?_eq_some_iff.1 hit).1
    by_cases hp : pos < l.length
    · have hps : pos < s.size := by rw [HSZ.out]; exact hp
      obtain ⟨r, d, hd⟩ : ∃ r d, dec (l.drop pos) = (r, d) := ⟨_, _, rfl⟩
      have hdec : Utf8.decode s pos = (r, d) := by rw [decode_dec, HSL.out, hd]
      have hnx : ∀ ty, (Instr.next (.pointer (some ⟨w1.heap.size, 0, none⟩)) true ty).run Try.prog wr = .ok (.tuple #[.bool true, .int .i64 pos, .int .i32 r]) (wr.iterAt w1.heap.size s (pos + d)) := fun ty => by
        rw [Lib.run_next_any_at wr w1.heap.size s pos ty hit hps, hdec]
      have hw := dec_width (l := l.drop pos) (by rw [List.length_drop]; omega)
      have hok := dec_ok (l.drop pos)
      have hst := runes_step (l := l.drop pos) (by rw [List.length_drop]; omega)
      rw [hd] at hw hok hst
      rw [List.drop_drop] at hst
      rw [List.length_drop] at hw
      simp only at hw hok hst
      have HST := Lib.hid hst
      have HOK := Lib.hid hok
      have hI2 := HR.bu.iterAt hit (pos + d)
      have hit2 := Lib.iterAt_heap wr w1.heap.size s pos (pos + d) hit
      have hbw2 := Lib.below_iterAt HR.bel (k := w1.heap.size) hB1.size s (pos + d)
      have hel := enc_snoc_le acc HR.len
      have HIT2 := Lib.hid hit2
      clear hd hdec hst hit hit2 hok
      have hr1 : (r : Int) ≤ 1114111 := by have := HOK.out; unfold okR at this; omega
      by_cases h13 : r = 13
      · subst h13
        go_wp2_with fail
        refine (Try.Builder_WriteByte_k w.heap.size w.heap.size _ 10 _ hI2 (by rw [Lib.byteCells_length]; omega) hbw2.size).mono ?_
        rintro e w2 ⟨rfl, h1, b1, k1⟩
        have hit3 := k1.iter HIT2.out (by have := hB1.size; omega)
        have HIT3 := Lib.hid hit3
        clear hit3 k1
        go_wp2
        go_roundw
        case rel =>
          refine ⟨pos + d, 13, acc ++ [10], rfl, by omega, ?_, by simp; omega, ?_, HIT3.out, hbw2.trans b1⟩
          · rw [HR.is, HST.out]
            exact (congrArg (acc ++ ·) (norm_13 x _)).trans (by rw [List.append_assoc]; rfl)
          · rw [cells_snoc]; exact Or.inr h1
        case measure => simp only [World.iterPos, HIT3.out, HR.it]; have := HSZ.out; omega
      by_cases h10 : r = 10 ∧ x = 13
      · obtain ⟨rfl, rfl⟩ := h10
        go_wp2
        go_roundw
        case rel =>
          refine ⟨pos + d, 10, acc, rfl, by omega, ?_, by omega, hI2, HIT2.out, hbw2⟩
          rw [HR.is, HST.out]
          exact congrArg (acc ++ ·) (norm_10 _)
        case measure => simp only [World.iterPos, HIT2.out, HR.it]; have := HSZ.out; omega
      by_cases h0 : r = 0
      · subst h0
        go_wp2_with fail
        refine (Try.Builder_WriteRune_k w.heap.size w.heap.size _ 65533 (by omega) (by omega) _ hI2 (by rw [Lib.byteCells_length]; omega) hbw2.size).mono ?_
        rintro e w2 ⟨rfl, h1, b1, k1⟩
        have hit3 := k1.iter HIT2.out (by have := hB1.size; omega)
        have HIT3 := Lib.hid hit3
        clear hit3 k1
        go_wp2
        go_roundw
        case rel =>
          refine ⟨pos + d, 0, acc ++ [65533], rfl, by omega, ?_, by simp; omega, ?_, HIT3.out, hbw2.trans b1⟩
          · rw [HR.is, HST.out]
            exact (congrArg (acc ++ ·) (norm_0 x _)).trans (by rw [List.append_assoc]; rfl)
          · rw [cells_snoc]; exact Or.inr h1
        case measure => simp only [World.iterPos, HIT3.out, HR.it]; have := HSZ.out; omega
      · have B13 : ((r : Int) == 13) = false := by simp; omega
        have B0 : ((r : Int) == 0) = false := by simp; omega
        have hn : norm x ((r : Int) :: runes (l.drop (pos + d))) = (r : Int) :: norm r (runes (l.drop (pos + d))) := norm_r _ (by omega) (by omega) (by omega)
        have HN := Lib.hid hn
        clear hn
        by_cases h10' : r = 10
        · have hx : (x == 13) = false := by simp; omega
          subst h10'
          clear h10
          go_wp2_with fail
          refine (Try.Builder_WriteRune_k w.heap.size w.heap.size _ 10 (by omega) (by omega) _ hI2 (by rw [Lib.byteCells_length]; omega) hbw2.size).mono ?_
          rintro e w2 ⟨rfl, h1, b1, k1⟩
          have hit3 := k1.iter HIT2.out (by have := hB1.size; omega)
          have HIT3 := Lib.hid hit3
          clear hit3 k1
          go_wp2
          go_roundw
          case rel =>
            refine ⟨pos + d, 10, acc ++ [10], rfl, by omega, ?_, by simp; omega, ?_, HIT3.out, hbw2.trans b1⟩
            · rw [HR.is, HST.out]
              exact (congrArg (acc ++ ·) HN.out).trans (by rw [List.append_assoc]; rfl)
            · rw [cells_snoc]; exact Or.inr h1
          case measure => simp only [World.iterPos, HIT3.out, HR.it]; have := HSZ.out; omega
        · have B10 : ((r : Int) == 10) = false := by simp; omega
          clear h10 h13 h0 h10'
          go_wp2_with fail
          refine (Try.Builder_WriteRune_k w.heap.size w.heap.size _ r (by omega) (by omega) _ hI2 (by rw [Lib.byteCells_length]; omega) hbw2.size).mono ?_
          rintro e w2 ⟨rfl, h1, b1, k1⟩
          have hit3 := k1.iter HIT2.out (by have := hB1.size; omega)
          have HIT3 := Lib.hid hit3
          clear hit3 k1
          go_wp2
          go_roundw
          case rel =>
            refine ⟨pos + d, r, acc ++ [(r : Int)], rfl, by omega, ?_, by simp; omega, ?_, HIT3.out, hbw2.trans b1⟩
            · rw [HR.is, HST.out, HN.out, List.append_assoc]; rfl
            · rw [cells_snoc]; exact Or.inr h1
          case measure => simp only [World.iterPos, HIT3.out, HR.it]; have := HSZ.out; omega
    · have hps : ¬ pos < s.size := by rw [HSZ.out]; exact hp
      have hnx : ∀ ty, (Instr.next (.pointer (some ⟨w1.heap.size, 0, none⟩)) true ty).run Try.prog wr = _ := fun ty => Lib.run_next_end_at wr w1.heap.size s pos ty hit hps
      clear hps
      have hr : right l = enc acc := by
        have := HR.is
        rw [List.drop_of_length_le (by omega), runes_nil] at this
        unfold right
        rw [this]
        simp [norm]
      have HRR := Lib.hid hr
      clear hr hit
      go_wp2_with fail
      refine (Try.Builder_String_any_k w.heap.size w.heap.size (enc acc) _ HR.bu HR.bel.size).mono ?_
      rintro e w2 ⟨rfl, _, hb2, _⟩
      have hB2 := HR.bel.trans hb2
      go_wp2
      go_ret
      rw [HRR.out]
      exact ⟨rfl, hB2⟩

end Go.Proofs.Ytgkbgcaajfjjpaa
