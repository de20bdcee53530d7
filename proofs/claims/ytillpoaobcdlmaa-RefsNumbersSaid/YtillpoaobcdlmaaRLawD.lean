/- strainerlaw02.RefsPlain: its walk. -/
import Derived.Test.YtillpoaobcdlmaaRLawA
namespace Go.Proofs.Ytillpoaobcdlmaa
open Go.RowKit
set_option linter.unusedVariables false

theorem byte_at (s : ByteArray) (l : List UInt8) (h : s.data.toList = l) : ∀ k, (hk : k < s.size) → l[k]? = some s[k] := by
  intro k hk
  rw [← h, List.getElem?_eq_getElem (by simpa using hk)]
  rw [at_data s k hk]

theorem byte_ne {c d : UInt8} {n : Nat} (h : c ≠ d) (hd : d.toNat = n) : ((c.toNat : Int) == (n : Int)) = false := by
  rw [beq_eq_false_iff_ne]
  intro e
  apply h
  apply UInt8.toNat_inj.1
  omega

/-- Has a list no & ? -/
def noAmp (l : List UInt8) : Bool := l.all (· != 38)
theorem noAmp_mem {l : List UInt8} (h : noAmp l = true) : ∀ c ∈ l, c ≠ 38 := by
  unfold noAmp at h
  rw [List.all_eq_true] at h
  intro c hc
  have := h c hc
  simpa using this
theorem noAmp_snoc (l : List UInt8) (c : UInt8) : noAmp (l ++ [c]) = (noAmp l && (c != 38)) := by simp [noAmp]

set_option maxHeartbeats 4000000 in
set_option maxRecDepth 100000 in
theorem refsPlain_end (s0 : ByteArray) (w : World) (hm : s0.size ≤ maxLen) :
    Calls Try.prog 5 #[.string s0] w fun e w' => e = .returned (.bool true) ∧ Below w.heap.size w w' := by
  have hf := few2_any s0 w hm
  have hz := fewS_size s0
  obtain ⟨s, hs⟩ : ∃ s, fewS s0 = s := ⟨_, rfl⟩
  rw [hs] at hf hz
  have HF := Lib.hid hf
  obtain ⟨l, hl⟩ : ∃ l, s.data.toList = l := ⟨_, rfl⟩
  have hsz : s.size = l.length := by rw [← hl]; simp
  have HSZ := Lib.hid hsz
  have HSL := Lib.hid hl
  have he := escB_len true l
  have hbare := esc_bare l
  have ha := escape_any s true w (by omega)
  rw [hl] at ha
  obtain ⟨r, hrr⟩ : ∃ r, escB true l = r := ⟨_, rfl⟩
  rw [hrr] at he ha hbare
  obtain ⟨t, ht, htl, htz⟩ := str_of r
  rw [ht] at ha
  have htz2 : t.size ≤ 1200 := by omega
  have HA := Lib.hid ha
  have HAT := Lib.hid (byte_at s l hl)
  have HBT := Lib.hid (byte_at t r htl)
  have HBR := Lib.hid hbare
  have HTZ := Lib.hid htz
  have e2 : (s.toList == s.toList) = true := by simp
  clear hf hs hl he hsz ha hrr ht htl htz hbare
  go_enter Try.func5, Try.ntmps5
  go_wp2_with fail
  refine HF.out.mono ?_
  rintro e w1 ⟨rfl, rfl⟩
  go_wp2_with fail
  go_loop [3, 4] (fun x y => ∃ (p : Bool) (k : Nat), x = .bool p ∧ y = .int .i64 k ∧ k ≤ l.length ∧ Hid (noAmp (l.take k) = p)) (fun _ y => s.size - (intOf y).toNat)
  case atStart => exact ⟨true, 0, rfl, rfl, by omega, Lib.hid rfl⟩
  case round =>
    obtain ⟨p, k, rfl, rfl, hk, HP⟩ := hrel
    by_cases hlt : k < s.size
    · have hgk := HAT.out k hlt
      have hgz := HSZ.out
      obtain ⟨c, hc⟩ : ∃ c, s[k] = c := ⟨_, rfl⟩
      rw [hc] at hgk
      have ht := take_snoc' hgk
      have HN := Lib.hid (show noAmp (l.take (k + 1)) = (p && (c != 38)) by rw [ht, noAmp_snoc, HP.out])
      clear hgk ht hgz
      cases p with
      | false =>
        clear hc
        go_wp2_with fail
        go_round
        case rel => exact ⟨false, k + 1, rfl, by go_num, by have := HSZ.out; omega, Lib.hid (by rw [HN.out]; rfl)⟩
        case measure => simp [intOf]; omega
      | true =>
        by_cases a : c = 38
        · have A : ((s[k].toNat : Int) != 38) = false := by rw [hc, a]; rfl
          have HM := Lib.hid (show noAmp (l.take (k + 1)) = false by rw [HN.out, a]; rfl)
          clear hc a
          go_wp2_with fail
          go_round
          case rel => exact ⟨false, k + 1, rfl, by go_num, by have := HSZ.out; omega, HM⟩
          case measure => simp [intOf]; omega
        · have A : ((s[k].toNat : Int) != 38) = true := by
            rw [hc]
            have := byte_ne (n := 38) a rfl
            simpa [bne] using this
          have HM := Lib.hid (show noAmp (l.take (k + 1)) = true by rw [HN.out]; simp [a])
          clear hc a
          go_wp2_with fail
          go_round
          case rel => exact ⟨true, k + 1, rfl, by go_num, by have := HSZ.out; omega, HM⟩
          case measure => simp [intOf]; omega
    · have hN : noAmp l = p := by
        have := HP.out
        rwa [List.take_of_length_le (by have := HSZ.out; omega)] at this
      have HN := Lib.hid hN
      clear hN
      go_wp2_with fail
      refine HA.out.mono ?_
      rintro e w1 ⟨rfl, hb1⟩
      go_wp2_with fail
      go_loop [6] (fun y => ∃ (j : Nat), y = .int .i64 j ∧ j ≤ t.size) (fun y => t.size - (intOf y).toNat)
      case atStart => exact ⟨0, rfl, by omega⟩
      case round =>
        obtain ⟨j, rfl, hj⟩ := hrel
        by_cases hjt : j < t.size
        · have hg := HBT.out j hjt
          have hb := HBR.out t[j] (List.mem_of_getElem? hg)
          have A : ((t[j].toNat : Int) == 60) = false := byte_ne (n := 60) hb.1 rfl
          have B : ((t[j].toNat : Int) == 62) = false := byte_ne (n := 62) hb.2.1 rfl
          have C : ((t[j].toNat : Int) == 34) = false := byte_ne (n := 34) hb.2.2 rfl
          clear hg hb
          go_wp2_with fail
          go_round
          case rel => exact ⟨j + 1, by go_num, by omega⟩
          case measure => simp [intOf]; omega
        · cases p with
          | false =>
            go_wp2_with fail
            refine (lives2_any _).mono ?_
            rintro e w3 ⟨rfl, hb3⟩
            have hB3 := below_after hb1 hb3
            go_wp2_with fail
            go_ret
            exact ⟨rfl, hB3⟩
          | true =>
            have HD := Lib.hid (show (⟨(decB s.data.toList).toArray⟩ : ByteArray) = s by rw [HSL.out, decB_none (noAmp_mem HN.out), ← HSL.out])
            go_wp2_with fail
            refine (decode_any s _ (by omega)).mono ?_
            rw [HD.out]
            rintro e w2 ⟨rfl, hb2⟩
            have hB2 := below_after hb1 hb2
            go_wp2_with fail
            refine (lives2_any _).mono ?_
            rintro e w3 ⟨rfl, hb3⟩
            have hB3 := below_after hB2 hb3
            go_wp2_with fail
            go_ret
            exact ⟨rfl, hB3⟩

end Go.Proofs.Ytillpoaobcdlmaa
