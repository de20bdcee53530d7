/- strainerref03.Named, Attributed: their walks. -/
import Derived.Test.YtenjhfkdbmljnaaNamR
namespace Go.Proofs.Ytenjhfkdbmljnaa
open Go.RowKit
set_option linter.unusedVariables false

theorem byte_at (s : ByteArray) (l : List UInt8) (h : s.data.toList = l) : ∀ k, (hk : k < s.size) → l[k]? = some s[k] := by
  intro k hk
  rw [← h, List.getElem?_eq_getElem (by simpa using hk)]
  rw [at_data s k hk]
theorem take_snoc1 {l : List UInt8} {k : Nat} {c : UInt8} (h : l[k]? = some c) : l.take (k + 1) = l.take k ++ [c] := by rw [List.take_add_one, h]; rfl

set_option maxHeartbeats 2000000 in
set_option maxRecDepth 100000 in
theorem namedR_any (s : ByteArray) (w : World) (hm : s.size ≤ 100000) :
    Calls Try.prog 46 #[.string s] w fun e w' => e = .returned (.bool (namedB s.data.toList)) ∧ w = w' := by
  obtain ⟨l, hl⟩ : ∃ l, s.data.toList = l := ⟨_, rfl⟩
  have hlz : s.size = l.length := by rw [← hl]; simp
  rw [hl]
  by_cases h0 : s.size = 0
  · have HF := Lib.hid (show namedB l = false by rw [List.eq_nil_of_length_eq_zero (by omega : l.length = 0)]; rfl)
    have B : ((s.size : Int) == 0) = true := by rw [h0]; rfl
    clear hl hlz
    go_enter Try.func46, Try.ntmps46
    go_wp2_with fail
    go_ret
    exact ⟨by rw [HF.out]; rfl, rfl⟩
  · have hp : 0 < s.size := by omega
    have B : ((s.size : Int) == 0) = false := by rw [beq_eq_false_iff_ne]; omega
    have hat := byte_at s l hl
    have hg0 := hat 0 hp
    obtain ⟨c0, hc0⟩ : ∃ c, s[0] = c := ⟨_, rfl⟩
    rw [hc0] at hg0
    have hnB : namedB l = (smC c0 && l.all namC) := by
      cases l with
      | nil => simp at hg0
      | cons a t => simp at hg0; subst hg0; rfl
    obtain ⟨q0, hq0⟩ : ∃ q, smC c0 = q := ⟨_, rfl⟩
    rw [hq0] at hnB
    have HNB := Lib.hid hnB
    have HAT := Lib.hid hat
    have HZ := Lib.hid hlz
    have HC0 := Lib.hid hc0
    have HQ0 := Lib.hid hq0
    clear hl hlz h0 hat hg0 hnB hc0 hq0
    go_enter Try.func46, Try.ntmps46
    go_wp2_with fail
    rw [HC0.out]
    refine (small3_any c0 _).mono ?_
    rw [HQ0.out]
    rintro e w1 ⟨rfl, rfl⟩
    go_wp2_with fail
    go_loop [4] (fun y => ∃ k : Nat, y = .int .i64 k ∧ k ≤ s.size ∧ Hid ((l.take k).all namC = true)) (fun y => s.size - (intOf y).toNat)
    case atStart => exact ⟨0, rfl, by omega, Lib.hid rfl⟩
    case round =>
      obtain ⟨k, rfl, hk, HA⟩ := hrel
      by_cases hlt : k < s.size
      · have hg := HAT.out k hlt
        obtain ⟨c, hc⟩ : ∃ c, s[k] = c := ⟨_, rfl⟩
        rw [hc] at hg
        have htk := take_snoc1 hg
        have hno := fun h => all_false (p := namC) hg h
        have HNO := Lib.hid hno
        have HC := Lib.hid hc
        have HST := Lib.hid (show namC c = true → (l.take (k + 1)).all namC = true by intro h; rw [htk, all_snoc, HA.out, h]; rfl)
        clear hg htk hno
        by_cases hs : smC c = true
        · have HS := Lib.hid hs
          have HN := Lib.hid (HST.out (by unfold namC; rw [hs]; rfl))
          clear hs hc
          go_wp2_with fail
          rw [HC.out]
          refine (small3_any c _).mono ?_
          rw [HS.out]
          rintro e w1 ⟨rfl, rfl⟩
          go_wp2_with fail
          go_round
          case rel => exact ⟨k + 1, by go_num, by omega, HN⟩
          case measure => simp [intOf]; omega
        · have hs' : smC c = false := by simpa using hs
          have HS := Lib.hid hs'
          by_cases hn : namC c = true
          · have HN := Lib.hid (HST.out hn)
            by_cases h45 : c.toNat = 45
            · have D1 : decide ((s[k].toNat : Int) < 48) = true := by rw [hc]; simp; omega
              have D3 : ((s[k].toNat : Int) != 45) = false := by rw [hc, h45]; rfl
              clear hs hs' hn hc h45
              go_wp2_with fail
              rw [HC.out]
              refine (small3_any c _).mono ?_
              rw [HS.out]
              rintro e w1 ⟨rfl, rfl⟩
              go_wp2_with fail
              go_round
              case rel => exact ⟨k + 1, by go_num, by omega, HN⟩
              case measure => simp [intOf]; omega
            · have hd : 48 ≤ c.toNat ∧ c.toNat ≤ 57 := by
                unfold namC at hn
                rw [hs'] at hn
                simp at hn
                omega
              have D1 : decide ((s[k].toNat : Int) < 48) = false := by rw [hc]; simp; omega
              have D2 : decide (57 < (s[k].toNat : Int)) = false := by rw [hc]; simp; omega
              clear hs hs' hn hc h45 hd
              go_wp2_with fail
              rw [HC.out]
              refine (small3_any c _).mono ?_
              rw [HS.out]
              rintro e w1 ⟨rfl, rfl⟩
              go_wp2_with fail
              go_round
              case rel => exact ⟨k + 1, by go_num, by omega, HN⟩
              case measure => simp [intOf]; omega
          · have hn' : namC c = false := by simpa using hn
            have HF := Lib.hid (show namedB l = false by rw [HNB.out, HNO.out hn']; simp)
            have hb : ¬ c.toNat = 45 ∧ (c.toNat < 48 ∨ 57 < c.toNat) := by
              unfold namC at hn'
              rw [hs'] at hn'
              simp at hn'
              omega
            have D3 : ((s[k].toNat : Int) != 45) = true := by rw [hc]; simp; omega
            obtain ⟨hb1, hb2⟩ := hb
            rcases (show c.toNat < 48 ∨ (48 ≤ c.toNat ∧ 57 < c.toNat) by omega) with hb | ⟨hb, hb'⟩
            case' inl => have D1 : decide ((s[k].toNat : Int) < 48) = true := by rw [hc]; simp; omega
            case' inr =>
              have D1 : decide ((s[k].toNat : Int) < 48) = false := by rw [hc]; simp; omega
              have D2 : decide (57 < (s[k].toNat : Int)) = true := by rw [hc]; simp; omega
            all_goals
              clear hs hs' hn hn' hc hb1 hb2
              go_wp2_with fail
              rw [HC.out]
              refine (small3_any c _).mono ?_
              rw [HS.out]
              rintro e w1 ⟨rfl, rfl⟩
              go_wp2_with fail
              go_ret
              exact ⟨by rw [HF.out]; rfl, rfl⟩
      · have HF := Lib.hid (show namedB l = q0 by
          rw [HNB.out]
          have := HA.out
          rw [List.take_of_length_le (by have := HZ.out; omega)] at this
          rw [this, Bool.and_true])
        go_wp2_with fail
        go_ret
        exact ⟨by rw [HF.out]; rfl, rfl⟩

end Go.Proofs.Ytenjhfkdbmljnaa
