/- strainerref03.Attributed: its walk. -/
import Derived.Test.YtenjhfkdbmljnaaNamL
namespace Go.Proofs.Ytenjhfkdbmljnaa
open Go.RowKit
set_option linter.unusedVariables false

theorem byte_no {c : UInt8} {n : Nat} (h : c.toNat ≠ n) : ((c.toNat : Int) == (n : Int)) = false := by
  rw [beq_eq_false_iff_ne]
  omega

theorem attC_true {c : UInt8} (h : attC c = true) : (c.toNat < 65 ∨ 90 < c.toNat) ∧ c.toNat ≠ 9 ∧ c.toNat ≠ 10 ∧ c.toNat ≠ 12 ∧ c.toNat ≠ 32 ∧ c.toNat ≠ 47 ∧ c.toNat ≠ 62 ∧ c.toNat ≠ 61 := by
  unfold attC at h
  simp at h
  omega
theorem attC_false {c : UInt8} (h : attC c = false) : (65 ≤ c.toNat ∧ c.toNat ≤ 90) ∨ c.toNat = 9 ∨ c.toNat = 10 ∨ c.toNat = 12 ∨ c.toNat = 32 ∨ c.toNat = 47 ∨ c.toNat = 62 ∨ c.toNat = 61 := by
  unfold attC at h
  simp at h
  omega

set_option maxHeartbeats 4000000 in
set_option maxRecDepth 100000 in
theorem attrR_any (s : ByteArray) (w : World) (hm : s.size ≤ 100000) :
    Calls Try.prog 47 #[.string s] w fun e w' => e = .returned (.bool (attrB s.data.toList)) ∧ Below w.heap.size w w' := by
  obtain ⟨l, hl⟩ : ∃ l, s.data.toList = l := ⟨_, rfl⟩
  have hlz : s.size = l.length := by rw [← hl]; simp
  have hi := isR_any s w hm
  rw [hl] at hi ⊢
  obtain ⟨q, hq⟩ : ∃ q, isB l = q := ⟨_, rfl⟩
  rw [hq] at hi
  have HI := Lib.hid hi
  have HQ := Lib.hid hq
  have HAT := Lib.hid (byte_at s l hl)
  have HZ := Lib.hid hlz
  clear hl hlz hi hq
  go_enter Try.func47, Try.ntmps47
  go_wp2_with fail
  refine HI.out.mono ?_
  rintro e w1 ⟨rfl, hb1⟩
  go_wp2_with fail
  go_loop [4] (fun y => ∃ k : Nat, y = .int .i64 k ∧ k ≤ s.size ∧ Hid ((l.take k).all attC = true)) (fun y => s.size - (intOf y).toNat)
  case atStart => exact ⟨0, rfl, by omega, Lib.hid rfl⟩
  case round =>
    obtain ⟨k, rfl, hk, HA⟩ := hrel
    by_cases hlt : k < s.size
    · have hg := HAT.out k hlt
      obtain ⟨c, hc⟩ : ∃ c, s[k] = c := ⟨_, rfl⟩
      rw [hc] at hg
      have htk := take_snoc1 hg
      have HNO := Lib.hid (fun h => all_false (p := attC) hg h)
      have HST := Lib.hid (show attC c = true → (l.take (k + 1)).all attC = true by intro h; rw [htk, all_snoc, HA.out, h]; rfl)
      clear hg htk
      by_cases ha : attC c = true
      · have HN := Lib.hid (HST.out ha)
        obtain ⟨h1, h2, h3, h4, h5, h6, h7, h8⟩ := attC_true ha
        have B2 : ((s[k].toNat : Int) == 9) = false := by rw [hc]; exact byte_no h2
        have B3 : ((s[k].toNat : Int) == 10) = false := by rw [hc]; exact byte_no h3
        have B4 : ((s[k].toNat : Int) == 12) = false := by rw [hc]; exact byte_no h4
        have B5 : ((s[k].toNat : Int) == 32) = false := by rw [hc]; exact byte_no h5
        have B6 : ((s[k].toNat : Int) == 47) = false := by rw [hc]; exact byte_no h6
        have B7 : ((s[k].toNat : Int) == 62) = false := by rw [hc]; exact byte_no h7
        have B8 : ((s[k].toNat : Int) == 61) = false := by rw [hc]; exact byte_no h8
        rcases (show c.toNat < 65 ∨ (65 ≤ c.toNat ∧ 90 < c.toNat) by omega) with hb | ⟨hb, hb'⟩
        case' inl => have D1 : decide (65 ≤ (s[k].toNat : Int)) = false := by rw [hc]; simp; omega
        case' inr =>
          have D1 : decide (65 ≤ (s[k].toNat : Int)) = true := by rw [hc]; simp; omega
          have D2 : decide ((s[k].toNat : Int) ≤ 90) = false := by rw [hc]; simp; omega
        all_goals
          clear h1 h2 h3 h4 h5 h6 h7 h8 ha hc
          go_wp2_with fail
          go_round
          case rel => exact ⟨k + 1, by go_num, by omega, HN⟩
          case measure => simp [intOf]; omega
      · have ha' : attC c = false := by simpa using ha
        have HF := Lib.hid (show attrB l = false by unfold attrB; rw [HNO.out ha']; simp)
        rcases attC_false ha' with ⟨h1, h2⟩ | h | h | h | h | h | h | h
        case' inl =>
          have D1 : decide (65 ≤ (s[k].toNat : Int)) = true := by rw [hc]; simp; omega
          have D2 : decide ((s[k].toNat : Int) ≤ 90) = true := by rw [hc]; simp; omega
          clear h1 h2
        case' inr.inl => have hv : (s[k].toNat : Int) = 9 := by rw [hc, h]; rfl
        case' inr.inr.inl => have hv : (s[k].toNat : Int) = 10 := by rw [hc, h]; rfl
        case' inr.inr.inr.inl => have hv : (s[k].toNat : Int) = 12 := by rw [hc, h]; rfl
        case' inr.inr.inr.inr.inl => have hv : (s[k].toNat : Int) = 32 := by rw [hc, h]; rfl
        case' inr.inr.inr.inr.inr.inl => have hv : (s[k].toNat : Int) = 47 := by rw [hc, h]; rfl
        case' inr.inr.inr.inr.inr.inr.inl => have hv : (s[k].toNat : Int) = 62 := by rw [hc, h]; rfl
        case' inr.inr.inr.inr.inr.inr.inr => have hv : (s[k].toNat : Int) = 61 := by rw [hc, h]; rfl
        all_goals
          first | clear h | skip
          clear ha ha' hc
          go_wp2_with fail
          go_ret
          exact ⟨by rw [HF.out]; rfl, hb1⟩
    · have hA : l.all attC = true := by
        have := HA.out
        rwa [List.take_of_length_le (by have := HZ.out; omega)] at this
      have HF := Lib.hid (show attrB l = (q && decide (0 < s.size)) by
        unfold attrB
        rw [HQ.out, hA, Bool.and_true]
        congr 1
        have := HZ.out
        cases l with
        | nil => simp at this; simp [this]
        | cons a t => simp at this; simp; omega)
      clear hA
      cases q with
      | false =>
        go_wp2_with fail
        go_ret
        exact ⟨by rw [HF.out]; rfl, hb1⟩
      | true =>
        have HF2 := Lib.hid (show attrB l = decide (0 < s.size) by rw [HF.out, Bool.true_and])
        by_cases hp : 0 < s.size
        case' pos => have D : decide (0 < s.size) = true := decide_eq_true hp
        case' neg => have D : decide (0 < s.size) = false := decide_eq_false hp
        all_goals
          rw [D] at HF2
          go_wp2_with fail
          go_ret
          exact ⟨by rw [HF2.out]; rfl, hb1⟩

end Go.Proofs.Ytenjhfkdbmljnaa
