/- strainerlaw01: the walk of UtfFolds. -/
import Derived.Test.YtgkbgcaajfjjpaaLawB
namespace Go.Proofs.Ytgkbgcaajfjjpaa
open Go.RowKit
set_option linter.unusedVariables false

theorem map_low_low (m : List UInt8) : (m.map lowB).map lowB = m.map lowB := by
  rw [List.map_map]
  apply List.map_congr_left
  intro x _
  exact lowB_low x

theorem prefB_own (m : List UInt8) (k : Nat) : prefB m ((m.map lowB).take k) = true := by
  unfold prefB
  rw [decide_eq_true_iff, List.length_take, List.length_map]
  by_cases h : k ≤ m.length
  · rw [Nat.min_eq_left h]
  · rw [Nat.min_eq_right (by omega), List.take_of_length_le (by simp), List.take_of_length_le (by simp; omega)]

theorem rem_neg (x : Int) (n : Nat) (h : x < 0) : 0 ≤ -((x + 1).tmod ((n : Int) + 1)) ∧ -((x + 1).tmod ((n : Int) + 1)) ≤ (n : Int) := by
  have e : (x + 1).tmod ((n : Int) + 1) = -((-(x + 1)).tmod ((n : Int) + 1)) := by rw [Int.neg_tmod]; omega
  rw [e, Int.neg_neg, Int.tmod_eq_emod_of_nonneg (by omega)]
  have h1 := Int.emod_nonneg (-(x + 1)) (b := (n : Int) + 1) (by omega)
  have h2 := Int.emod_lt_of_pos (-(x + 1)) (b := (n : Int) + 1) (by omega)
  omega

theorem rem_pos (x : Int) (n : Nat) (h : 0 ≤ x) : 0 ≤ x % ((n : Int) + 1) ∧ x % ((n : Int) + 1) ≤ (n : Int) := by
  have h1 := Int.emod_nonneg x (b := (n : Int) + 1) (by omega)
  have h2 := Int.emod_lt_of_pos x (b := (n : Int) + 1) (by omega)
  omega

set_option maxHeartbeats 4000000 in
set_option maxRecDepth 100000 in
theorem utfFolds_end (a : ByteArray) (x : Int) (w : World) (ha : a.size ≤ maxLen) (hx : -9223372036854775808 ≤ x ∧ x ≤ 9223372036854775807) :
    Calls Try.prog 8 #[.string a, .int .i64 x] w fun e w' => e = .returned (.bool true) ∧ Below w.heap.size w w' := by
  have kb := fun (w : World) (s : ByteArray) => run_bytes_of_string (P := Try.prog) w 9 22 5 s Try.underlying9 Try.underlying22 Try.underlying5
  obtain ⟨l, hl⟩ : ∃ l, a.data.toList = l := ⟨_, rfl⟩
  have hal : a.size = l.length := by rw [← hl]; simp
  have hsn := sits_new w a (grownCap w a.size 0 5)
  rw [hl] at hsn
  have hcap := grownCap_ge w a.size 0 5
  have hbel := alloc_drew_below w (.cells (bytesRow a (grownCap w a.size 0 5)) 5 ((bytesRow a (grownCap w a.size 0 5)).size, (bytesRow a (grownCap w a.size 0 5)).size + 1))
  have HN := Lib.hid hal
  have HM := Lib.hid ha
  clear hl hal ha
  go_enter Try.func8, Try.ntmps8
  go_wp2_with fail
  have hs5 : Sits (w.alloc (.cells (bytesRow a (grownCap w a.size 0 5)) 5 ((bytesRow a (grownCap w a.size 0 5)).size, (bytesRow a (grownCap w a.size 0 5)).size + 1))).drew
      (w.alloc (.cells (bytesRow a (grownCap w a.size 0 5)) 5 ((bytesRow a (grownCap w a.size 0 5)).size, (bytesRow a (grownCap w a.size 0 5)).size + 1))).drew.heap.size (some ⟨w.heap.size, 0, none⟩) (Lib.byteCells l) := by
    simpa using hsn
  generalize (w.alloc (.cells (bytesRow a (grownCap w a.size 0 5)) 5 ((bytesRow a (grownCap w a.size 0 5)).size, (bytesRow a (grownCap w a.size 0 5)).size + 1))).drew = w1 at *
  clear hsn
  generalize grownCap w a.size 0 5 = cap at *
  refine (few_any _ a.size cap l w1 hs5 HN.out hcap (by have := HM.out; have := HN.out; omega)).mono ?_
  rintro e w' ⟨rfl, rfl⟩
  have hs6 := hs5.take 200
  rw [← byteCells_take] at hs6
  have hm2 : (l.take 200).length ≤ 200 := by rw [List.length_take]; omega
  generalize l.take 200 = m at *
  clear hs5 hcap
  have kc := convert_bytes (c := cap) hs6
  obtain ⟨s, hs⟩ : ∃ s : ByteArray, (⟨m.toArray⟩ : ByteArray) = s := ⟨_, rfl⟩
  rw [hs] at kc
  have hsl : s.data.toList = m := by rw [← hs]
  have hsz : s.size = m.length := by rw [← hs]; rfl
  have HS := Lib.hid hs
  have HSL := Lib.hid hsl
  have HSZ := Lib.hid hsz
  have hsz2 : s.size ≤ 200 := by omega
  clear hs hsl hsz hs6
  go_wp2_with fail
  refine (fold_any s w1 (by unfold maxLen; omega)).mono ?_
  rw [HSL.out]
  rintro e w2 ⟨rfl, hb2⟩
  have hB2 := below_after hbel hb2
  clear hbel hb2 kc
  obtain ⟨t, ht⟩ : ∃ t : ByteArray, (⟨(m.map lowB).toArray⟩ : ByteArray) = t := ⟨_, rfl⟩
  rw [ht]
  have htl : t.data.toList = m.map lowB := by rw [← ht]
  have htz : t.size = s.size := by rw [← ht, HSZ.out]; show (m.map lowB).toArray.size = _; simp
  have HT := Lib.hid ht
  have HTL := Lib.hid htl
  have HTZ := Lib.hid htz
  have htz2 : t.size ≤ 200 := by omega
  clear ht htl htz
  have hup : ∀ k, (h : k < t.size) → ¬ (65 ≤ (t[k]).toNat ∧ (t[k]).toNat ≤ 90) := by
    intro k h
    have hk : k < t.data.toList.length := by simpa using h
    have e : t.data.toList[k]? = (m.map lowB)[k]? := by rw [HTL.out]
    rw [List.getElem?_eq_getElem hk, at_data t k h, List.getElem?_map] at e
    cases hmk : m[k]? with
    | none => rw [hmk] at e; cases e
    | some u =>
      rw [hmk] at e
      have e2 : t[k] = lowB u := Option.some.inj e
      rw [e2]
      exact lowB_up u
  have HUP := Lib.hid hup
  clear hup
  rcases (show x < 0 ∨ 0 ≤ x by omega) with hneg | hneg
  case' inl =>
    have hneg' : decide (x < 0) = true := by simp [hneg]
    have hK := rem_neg x s.size hneg
    go_wp2_with fail
    generalize -((x + 1).tmod ((s.size : Int) + 1)) = K at *
  case' inr =>
    have hneg' : decide (x < 0) = false := by simp; omega
    have hK := rem_pos x s.size hneg
    go_wp2_with fail
    generalize x % ((s.size : Int) + 1) = K at *
  all_goals
    obtain ⟨k0, rfl⟩ : ∃ k0 : Nat, K = (k0 : Int) := ⟨K.toNat, by omega⟩
    clear hneg hneg'
    have hk0 : k0 ≤ t.size := by have := HTZ.out; omega
    clear hK
    go_loop [7] (fun i => ∃ k : Nat, k ≤ t.size ∧ i = .int .i64 k) (fun i => t.size - (intOf i).toNat)
    case atStart => exact ⟨0, Nat.zero_le _, rfl⟩
    case round =>
      obtain ⟨k, hk, rfl⟩ := hrel
      by_cases hlt : k < t.size
      · have hu := HUP.out k hlt
        by_cases h65 : 65 ≤ (t[k]).toNat
        · have h90 : 90 < (t[k]).toNat := by omega
          clear hu
          go_wp2_with fail
          go_round
          case rel => exact ⟨k + 1, by omega, by go_num⟩
          case measure => simp [intOf]; omega
        · clear hu
          go_wp2_with fail
          go_round
          case rel => exact ⟨k + 1, by omega, by go_num⟩
          case measure => simp [intOf]; omega
      · have hze : ((t.size : Int) == (s.size : Int)) = true := by simp [HTZ.out]
        go_wp2_with fail
        refine (fold_any t w2 (by unfold maxLen; omega)).mono ?_
        rw [HTL.out, map_low_low, HT.out]
        rintro e w3 ⟨rfl, hb3⟩
        have hB3 := below_after hB2 hb3
        clear hB2 hb3
        go_wp2_with fail
        refine (prefix_any s (t.extract 0 k0) w3 (by unfold maxLen; omega) (by unfold maxLen; rw [ByteArray.size_extract]; omega)).mono ?_
        rw [Lib.extract_data, HSL.out, HTL.out, List.drop_zero, Nat.sub_zero, prefB_own]
        rintro e w4 ⟨rfl, hb4⟩
        have hB4 := below_after hB3 hb4
        clear hB3 hb4
        go_wp2_with fail
        refine (lives_any _).mono ?_
        rintro e w5 ⟨rfl, hb5⟩
        have hB5 := below_after hB4 hb5
        go_wp2_with fail
        go_ret
        exact ⟨rfl, hB5⟩

end Go.Proofs.Ytgkbgcaajfjjpaa
