/- strainerlaw01: the walks of UtfTexts, UtfRunes, UtfRights. -/
import Derived.Test.YtgkbgcaajfjjpaaLives
import Derived.Test.YtgkbgcaajfjjpaaSame
import Derived.Test.YtgkbgcaajfjjpaaRightR
import Derived.Test.YtgkbgcaajfjjpaaRunes
import Derived.Test.YtgkbgcaajfjjpaaText
namespace Go.Proofs.Ytgkbgcaajfjjpaa
open Go.RowKit
set_option linter.unusedVariables false

set_option maxHeartbeats 400000 in
theorem few_any (A : Option Addr) (n c : Nat) (l : List UInt8) (w : World) (hs : Sits w w.heap.size A (Lib.byteCells l)) (hn : n = l.length) (hc : n ≤ c) (hm : l.length ≤ maxLen) :
    Calls Try.prog 9 #[.slice A n c] w fun e w' => e = .returned (.slice A (l.take 200).length c) ∧ w = w' := by
  unfold maxLen at hm
  by_cases h : 200 < n
  · obtain ⟨b, o, rfl, hb, _⟩ := hs.open_ (by rw [Lib.byteCells_length]; omega)
    have hl := Lib.hid (show (l.take 200).length = 200 by rw [List.length_take]; omega)
    clear hs hn
    go_enter Try.func9, Try.ntmps9
    go_wp2
    go_ret
    exact ⟨by rw [hl.out]; rfl, rfl⟩
  · have hl := Lib.hid (show (l.take 200).length = n by rw [List.length_take]; omega)
    clear hs hn
    go_enter Try.func9, Try.ntmps9
    go_wp2
    go_ret
    exact ⟨by rw [hl.out]; rfl, rfl⟩

theorem byteCells_take (l : List UInt8) (n : Nat) : Lib.byteCells (l.take n) = (Lib.byteCells l).take n := by simp [Lib.byteCells]
theorem rcells_take (l : List Int) (n : Nat) : rcells (l.take n) = (rcells l).take n := by simp [rcells, List.map_take]

theorem i32s_take {l : List Int} (h : i32s l) (n : Nat) : i32s (l.take n) := fun r hr => h r (List.mem_of_mem_take hr)

set_option maxHeartbeats 1000000 in
set_option maxRecDepth 100000 in
theorem utfTexts_end (A : Option Addr) (n c : Nat) (l : List Int) (w : World) (hs : Sits w w.heap.size A (rcells l)) (hn : n = l.length) (hc : n ≤ c) (hm : n ≤ maxLen) (h32 : i32s l) :
    Calls Try.prog 4 #[.slice A n c] w fun e w' => e = .returned (.bool true) ∧ Below w.heap.size w w' := by
  unfold maxLen at hm
  by_cases h : 60 < n
  · obtain ⟨b, o, rfl, hb, _⟩ := hs.open_ (by rw [rcells_length]; omega)
    have hl : (l.take 60).length = 60 := by rw [List.length_take]; omega
    have hs2 : Sits w w.heap.size (some ⟨b, o, none⟩) (rcells (l.take 60)) := by rw [rcells_take]; exact hs.take 60
    have h322 := i32s_take h32 60
    generalize l.take 60 = m at *
    have HS2 := Lib.hid hs2
    have HL := Lib.hid hl
    have HN := Lib.hid hn
    clear hs h32 hl hn hs2
    go_enter Try.func4, Try.ntmps4
    go_wp2_with fail
    rw [show (60 : Nat) = m.length from HL.out.symm]
    refine (text_any _ c m w HS2.out (by have := HL.out; omega) h322).mono ?_
    rintro e w1 ⟨rfl, hb1⟩
    have hs3 := (HS2.out.below hb1).more hb1.size
    go_wp2_with fail
    refine (textR_any _ c m w1 hs3 (by have := HL.out; omega) (by have := HL.out; omega) h322).mono ?_
    rintro e w2 ⟨rfl, hb2⟩
    have hB2 := below_after hb1 hb2
    go_wp2_with fail
    refine (lives_any _).mono ?_
    rintro e w3 ⟨rfl, hb3⟩
    have hB3 := below_after hB2 hb3
    go_wp2_with fail
    go_ret
    exact ⟨rfl, hB3⟩
  · subst hn
    have HS := Lib.hid hs
    clear hs
    go_enter Try.func4, Try.ntmps4
    go_wp2_with fail
    refine (text_any _ c l w HS.out (by omega) h32).mono ?_
    rintro e w1 ⟨rfl, hb1⟩
    have hs3 := (HS.out.below hb1).more hb1.size
    go_wp2_with fail
    refine (textR_any _ c l w1 hs3 hc (by omega) h32).mono ?_
    rintro e w2 ⟨rfl, hb2⟩
    have hB2 := below_after hb1 hb2
    go_wp2_with fail
    refine (lives_any _).mono ?_
    rintro e w3 ⟨rfl, hb3⟩
    have hB3 := below_after hB2 hb3
    go_wp2_with fail
    go_ret
    exact ⟨rfl, hB3⟩

set_option maxHeartbeats 1000000 in
set_option maxRecDepth 100000 in
theorem utfRunes_end (A : Option Addr) (n c : Nat) (l : List UInt8) (w : World) (hs : Sits w w.heap.size A (Lib.byteCells l)) (hn : n = l.length) (hc : n ≤ c) (hm : n ≤ maxLen) :
    Calls Try.prog 3 #[.slice A n c] w fun e w' => e = .returned (.bool true) ∧ Below w.heap.size w w' := by
  have hs1 := hs.take 200
  rw [← byteCells_take] at hs1
  have hl : (l.take 200).length ≤ 200 := by rw [List.length_take]; omega
  have hl2 : (l.take 200).length ≤ c := by rw [List.length_take]; omega
  have HN := Lib.hid hn
  clear hn
  have hrl := runes_len _ (l.take 200) (Nat.le_refl _)
  go_enter Try.func3, Try.ntmps3
  go_wp2_with fail
  refine (few_any A n c l w hs HN.out hc (by have := HN.out; omega)).mono ?_
  rintro e w' ⟨rfl, rfl⟩
  generalize l.take 200 = m at *
  clear hs HN
  go_wp2_with fail
  refine (runes_any A c m w hs1 (by omega)).mono ?_
  rintro e w1 ⟨A1, c1, rfl, hc1, hown1, hb1⟩
  have hs2 := (hs1.below hb1).more hb1.size
  go_wp2_with fail
  refine (runesR_any A c m w1 hs2 hl2 (by omega)).mono ?_
  rintro e w2 ⟨A2, c2, rfl, hc2, hown2, hb2⟩
  have ha := Sits.own (own_below hown1 hb2)
  have hb := Sits.own hown2
  have hB2 := below_after hb1 hb2
  clear hown1 hown2 hb1 hb2
  go_wp2_with fail
  refine (same_any A1 A2 c1 c2 (runes m) (runes m) w2 ha hb (by unfold maxLen; omega) (by unfold maxLen; omega)).mono ?_
  rw [decide_eq_true (rfl : runes m = runes m)]
  rintro e w3 ⟨rfl, hb3⟩
  have hB3 := below_after hB2 hb3
  go_wp2_with fail
  refine (lives_any _).mono ?_
  rintro e w4 ⟨rfl, hb4⟩
  have hB4 := below_after hB3 hb4
  go_wp2_with fail
  go_ret
  exact ⟨rfl, hB4⟩

end Go.Proofs.Ytgkbgcaajfjjpaa
