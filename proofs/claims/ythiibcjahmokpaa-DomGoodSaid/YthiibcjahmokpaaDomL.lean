/- dom.Attributed, tagged, fault, at the document's example: their walks. -/
import Derived.Test.YthiibcjahmokpaaDomF
import Derived.Test.YthiibcjahmokpaaTreeA
import Derived.Maps.Own
import Derived.Maps.OwnOps
import Derived.Maps.OwnSet
import Derived.Maps.Views
import Derived.StringKeys
namespace Go.Proofs.Ythiibcjahmokpaa
open Go.RowKit Go.Maps
set_option linter.unusedVariables false

theorem barred_id (r : Int) (hr : r = 105 ∨ r = 100) (w : World) : Calls Try.prog 35 #[.int .i32 r] w fun e w' => e = .returned (.bool false) ∧ w' = w := by
  rcases hr with rfl | rfl
  all_goals
    go_enter Try.func35, Try.ntmps35
    go_wp2_with fail
    go_ret
    exact ⟨rfl, rfl⟩

def idS : ByteArray := ⟨#[105, 100]⟩
theorem idS_size : idS.size = 2 := rfl

structure IdAt (w wr : World) (pos : Nat) : Prop where
  le : pos ≤ 2
  it : wr.heap[w.heap.size]? = some (.stringIter idS pos)
  bel : Below w.heap.size w wr

set_option maxHeartbeats 1000000 in
set_option maxRecDepth 100000 in
theorem indexFunc_id (w : World) :
    Calls Try.prog 40 #[.string idS, .func (.func 35) #[] #[], .bool true] w fun e w' => e = .returned (.int .i64 (-1)) ∧ Below w.heap.size w w' := by
  go_enter Try.func40, Try.ntmps40
  go_wp2_with fail
  go_loopw [] (fun wr => ∃ (pos : Nat), IdAt w wr pos) (fun wr => 2 - wr.iterPos w.heap.size)
  case atStart => exact ⟨0, by omega, World.iter_heap w idS 0, (Below.refl _ w).alloc (Nat.le_refl _) _⟩
  case round =>
    obtain ⟨pos, HR⟩ := hrel
    have hit := HR.it
    have hle := HR.le
    have HBW := Lib.hid (fun p => Lib.below_iterAt HR.bel (k := w.heap.size) (Nat.le_refl _) idS p)
    have HIT2 := Lib.hid (fun p => Lib.iterAt_heap wr w.heap.size idS pos p hit)
    by_cases hp : pos < 2
    · obtain ⟨r, hr, hd⟩ : ∃ r : Nat, ((r : Int) = 105 ∨ (r : Int) = 100) ∧ Utf8.decode idS pos = (r, 1) := by
        rcases (show pos = 0 ∨ pos = 1 by omega) with rfl | rfl
        · exact ⟨105, .inl rfl, by decide +kernel⟩
        · exact ⟨100, .inr rfl, by decide +kernel⟩
      have hnx : ∀ ty, (Instr.next (.pointer (some ⟨w.heap.size, 0, none⟩)) true ty).run Try.prog wr = .ok (.tuple #[.bool true, .int .i64 pos, .int .i32 r]) (wr.iterAt w.heap.size idS (pos + 1)) := fun ty => by
        rw [Lib.run_next_any_at wr w.heap.size idS pos ty hit (by rw [idS_size]; exact hp), hd]
      have HRI := Lib.hid hr
      clear hd hr hit
      go_wp2_with fail
      refine (barred_id _ HRI.out _).mono ?_
      rintro e w2 ⟨rfl, rfl⟩
      go_wp2_with fail
      go_roundw
      case rel => exact ⟨pos + 1, by omega, HIT2.out _, HBW.out _⟩
      case measure => simp only [World.iterPos, HIT2.out, HR.it]; omega
    · have hnx : ∀ ty, (Instr.next (.pointer (some ⟨w.heap.size, 0, none⟩)) true ty).run Try.prog wr = _ := fun ty => Lib.run_next_end_at wr w.heap.size idS pos ty hit (by rw [idS_size]; exact hp)
      clear hit
      go_wp2_with fail
      go_ret
      exact ⟨rfl, HR.bel⟩

theorem id_is : isB idS.data.toList = true := by decide +kernel
theorem one_is : isB (⟨#[49]⟩ : ByteArray).data.toList = true := by decide +kernel

set_option maxHeartbeats 1000000 in
theorem attributed_id (w : World) : Calls Try.prog 29 #[.string idS] w fun e w' => e = .returned (.bool true) ∧ Below w.heap.size w w' := by
  have hne : idS.toList.isEmpty = false := by rw [Lib.toList_data]; rfl
  have hc : Calls Try.prog 34 #[.string idS, .func (.func 35) #[] #[]] w fun e w' => e = .returned (.bool false) ∧ Below w.heap.size w w' := by
    go_enter Try.func34, Try.ntmps34
    go_wp2_with (go_at_call 38; go_enter Try.func38, Try.ntmps38)
    go_wp2_with fail
    refine (indexFunc_id _).mono ?_
    rintro e w2 ⟨rfl, hb⟩
    go_wp2_with fail
    go_ret
    exact ⟨rfl, hb⟩
  go_enter Try.func29, Try.ntmps29
  go_wp2_with fail
  refine hc.mono ?_
  rintro e w1 ⟨rfl, hb1⟩
  go_wp2_with fail
  refine (is_any idS _ (by decide)).mono ?_
  rw [id_is]
  rintro e w2 ⟨rfl, hb2⟩
  have HB := Lib.hid (below_after hb1 hb2)
  go_wp2_with fail
  go_ret
  exact ⟨rfl, HB.out⟩

end Go.Proofs.Ythiibcjahmokpaa
