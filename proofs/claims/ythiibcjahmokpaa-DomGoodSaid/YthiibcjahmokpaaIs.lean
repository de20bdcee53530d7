/- utf.written, utf.Is: their walks. -/
import Derived.Test.YthiibcjahmokpaaBytesR
import Derived.Test.YthiibcjahmokpaaMemC
import Derived.Test.YthiibcjahmokpaaMathV
import Derived.Test.YthiibcjahmokpaaShelf
import Derived.BigCall
import Derived.Lib.IndexBytes
namespace Go.Proofs.Ythiibcjahmokpaa
open Go.RowKit
set_option linter.unusedVariables false

set_option maxHeartbeats 400000 in
theorem written_any (s : ByteArray) (w : World) :
    Calls Try.prog 30 #[.string s] w fun e w' => e = .returned (.bool (Lib.hasPrefix s.data.toList [239, 191, 189])) ∧ w = w' := by
  go_enter Try.func30, Try.ntmps30
  go_wp2_with fail
  refine (Try.strings_HasPrefix s _ _).mono ?_
  rintro e w1 ⟨rfl, rfl⟩
  go_wp2
  go_ret
  exact ⟨rfl, rfl⟩

structure IsAt (w wr : World) (s : ByteArray) (l : List UInt8) (pos : Nat) : Prop where
  le : pos ≤ l.length
  is : isB l = isB (l.drop pos)
  it : wr.heap[w.heap.size]? = some (.stringIter s pos)
  bel : Below w.heap.size w wr

set_option maxHeartbeats 1000000 in
set_option maxRecDepth 100000 in
theorem is_any (s : ByteArray) (w : World) (hm : s.size ≤ 1000000) :
    Calls Try.prog 23 #[.string s] w fun e w' => e = .returned (.bool (isB s.data.toList)) ∧ Below w.heap.size w w' := by
  obtain ⟨l, hl⟩ : ∃ l, s.data.toList = l := ⟨_, rfl⟩
  have hsz : s.size = l.length := by rw [← hl]; simp
  rw [hl]
  have HSL := Lib.hid hl
  have HSZ := Lib.hid hsz
  clear hl hsz
  go_enter Try.func23, Try.ntmps23
  go_wp2_with fail
  go_loopw [] (fun wr => ∃ (pos : Nat), IsAt w wr s l pos) (fun wr => s.size - wr.iterPos w.heap.size)
  case atStart => exact ⟨0, by omega, by simp, World.iter_heap w s 0, (Below.refl _ w).alloc (Nat.le_refl _) _⟩
  case round =>
    obtain ⟨pos, HR⟩ := hrel
    have hit := HR.it
    have hle := HR.le
    by_cases hp : pos < l.length
    · have hps : pos < s.size := by rw [HSZ.out]; exact hp
      obtain ⟨r, d, hd⟩ : ∃ r d, dec (l.drop pos) = (r, d) := ⟨_, _, rfl⟩
      have hdec : Utf8.decode s pos = (r, d) := by rw [decode_dec, HSL.out, hd]
      have hnx : ∀ ty, (Instr.next (.pointer (some ⟨w.heap.size, 0, none⟩)) true ty).run Try.prog wr = .ok (.tuple #[.bool true, .int .i64 pos, .int .i32 r]) (wr.iterAt w.heap.size s (pos + d)) := fun ty => by
        rw [Lib.run_next_any_at wr w.heap.size s pos ty hit hps, hdec]
      have hw := dec_width (l := l.drop pos) (by rw [List.length_drop]; omega)
      have hst := isB_step (l := l.drop pos) (by rw [List.length_drop]; omega)
      have hat : okAt (l.drop pos) = !(decide (r = 0) || decide (r = 13) || (decide (r = 65533) && !Lib.hasPrefix (l.drop pos) [239, 191, 189])) := by unfold okAt; rw [hd]
      rw [hd] at hw hst
      rw [List.drop_drop] at hst
      rw [List.length_drop] at hw
      simp only at hw hst
      have HST := Lib.hid hst
      have HAT := Lib.hid hat
      have hit2 := Lib.iterAt_heap wr w.heap.size s pos (pos + d) hit
      have hbw2 := Lib.below_iterAt HR.bel (k := w.heap.size) (Nat.le_refl _) s (pos + d)
      have HIT2 := Lib.hid hit2
      clear hd hdec hst hit hit2 hat
      by_cases h0 : r = 0
      · subst h0
        have hf : isB l = false := by rw [HR.is, HST.out, HAT.out]; rfl
        have HF := Lib.hid hf
        clear hf
        go_wp2_with fail
        go_ret
        exact ⟨by rw [HF.out]; rfl, hbw2⟩
      by_cases h13 : r = 13
      · subst h13
        have hf : isB l = false := by rw [HR.is, HST.out, HAT.out]; rfl
        have HF := Lib.hid hf
        clear hf
        go_wp2_with fail
        go_ret
        exact ⟨by rw [HF.out]; rfl, hbw2⟩
      have B0 : ((r : Int) == 0) = false := by simp; omega
      have B13 : ((r : Int) == 13) = false := by simp; omega
      by_cases h6 : r = 65533
      · subst h6
        clear h0 h13
        obtain ⟨q, hq⟩ : ∃ q, Lib.hasPrefix (l.drop pos) [239, 191, 189] = q := ⟨_, rfl⟩
        have HQ := Lib.hid hq
        have hpos : (pos : Int) ≤ (s.size : Int) := by omega
        go_wp2_with fail
        refine (written_any _ _).mono ?_
        rintro e w2 ⟨rfl, rfl⟩
        rw [drop_extract, HSL.out, HQ.out]
        clear hq
        cases q with
        | true =>
          go_wp2_with fail
          go_roundw
          case rel =>
            refine ⟨pos + d, by omega, ?_, HIT2.out, hbw2⟩
            rw [HR.is, HST.out, HAT.out, HQ.out]
            simp
          case measure => simp only [World.iterPos, HIT2.out, HR.it]; have := HSZ.out; omega
        | false =>
          have hf : isB l = false := by rw [HR.is, HST.out, HAT.out, HQ.out]; simp
          have HF := Lib.hid hf
          clear hf
          go_wp2_with fail
          go_ret
          exact ⟨by rw [HF.out]; rfl, hbw2⟩
      · have B6 : ((r : Int) == 65533) = false := by simp; omega
        have H := Lib.hid (And.intro h0 (And.intro h13 h6))
        clear h0 h13 h6
        go_wp2_with fail
        go_roundw
        case rel =>
          refine ⟨pos + d, by omega, ?_, HIT2.out, hbw2⟩
          rw [HR.is, HST.out, HAT.out]
          simp [H.out.1, H.out.2.1, H.out.2.2]
        case measure => simp only [World.iterPos, HIT2.out, HR.it]; have := HSZ.out; omega
    · have hps : ¬ pos < s.size := by rw [HSZ.out]; exact hp
      have hnx : ∀ ty, (Instr.next (.pointer (some ⟨w.heap.size, 0, none⟩)) true ty).run Try.prog wr = _ := fun ty => Lib.run_next_end_at wr w.heap.size s pos ty hit hps
      have hf : isB l = true := by rw [HR.is, List.drop_of_length_le (by omega)]; rfl
      have HF := Lib.hid hf
      clear hf hit hps
      go_wp2_with fail
      go_ret
      exact ⟨by rw [HF.out]; rfl, HR.bel⟩

end Go.Proofs.Ythiibcjahmokpaa
