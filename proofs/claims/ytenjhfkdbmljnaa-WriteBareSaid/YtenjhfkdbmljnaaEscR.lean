/- strainerref02.Escape: its walk. -/
import Derived.Test.YtenjhfkdbmljnaaMemC
import Derived.Test.YtenjhfkdbmljnaaRefM
namespace Go.Proofs.Ytenjhfkdbmljnaa
open Go.RowKit
set_option linter.unusedVariables false

set_option maxHeartbeats 1000000 in
set_option maxRecDepth 100000 in
theorem escapeR_any (s : ByteArray) (v : Bool) (w : World) (hm : s.size ≤ 140000) :
    Calls Try.prog 17 #[.string s, .bool v] w fun e w' => e = .returned (.string ⟨(escB v s.data.toList).toArray⟩) ∧ w = w' := by
  obtain ⟨l, hl⟩ : ∃ l, s.data.toList = l := ⟨_, rfl⟩
  have hsz : s.size = l.length := by rw [← hl]; simp
  have HSL := Lib.hid hl
  have HSZ := Lib.hid hsz
  have hll : l.length ≤ 140000 := by omega
  have hat : ∀ k, (h : k < s.size) → l[k]? = some s[k] := by
    intro k h
    rw [← hl, List.getElem?_eq_getElem (by simpa using h)]
    rw [at_data s k h]
  have HAT := Lib.hid hat
  rw [hl]
  clear hl hsz hat
  go_enter Try.func17, Try.ntmps17
  go_wp2_with fail
  go_loop [5, 6] (fun x y => ∃ (o : ByteArray) (k : Nat), x = .string o ∧ y = .int .i64 k ∧ k ≤ l.length ∧ Hid (o.data.toList = escB v (l.take k)) ∧ o.size ≤ 6 * k) (fun _ y => s.size - (intOf y).toNat)
  case atStart => exact ⟨⟨#[]⟩, 0, rfl, rfl, by omega, Lib.hid rfl, Nat.le_refl _⟩
  case round =>
    obtain ⟨o, k, rfl, rfl, hk, HO, ho⟩ := hrel
    by_cases hlt : k < s.size
    · have hgk := HAT.out k hlt
      obtain ⟨c, hc⟩ : ∃ c, s[k] = c := ⟨_, rfl⟩
      rw [hc] at hgk
      have HG := Lib.hid hgk
      have ht := take_snoc' hgk
      have HTk := Lib.hid ht
      clear hgk ht
      have hstep : ∀ x : List UInt8, wrC v c = x → ∀ o' : ByteArray, o'.data.toList = o.data.toList ++ x → o'.data.toList = escB v (l.take (k + 1)) := by
        intro x hx o' ho'
        rw [HTk.out, escB_append, ← HO.out, ho', escB_cons, escB_nil, hx, List.append_nil]
      have HST := Lib.hid hstep
      clear hstep
      have hz : o.size ≤ 1000000 := by omega
      have hfin : ∀ x : List UInt8, x.length ≤ 6 → wrC v c = x → ∀ q : ByteArray, q.data.toList = x → ∃ (o' : ByteArray) (k' : Nat), Value.string (o ++ q) = .string o' ∧ Value.int .i64 ((k : Int) + 1) = .int .i64 k' ∧ k' ≤ l.length ∧ Hid (o'.data.toList = escB v (l.take k')) ∧ o'.size ≤ 6 * k' := by
        intro x hx6 hx q hq
        refine ⟨o ++ q, k + 1, rfl, by go_num, by have := HSZ.out; omega, Lib.hid (HST.out x hx _ (by rw [ByteArray.data_append, Array.toList_append, hq])), ?_⟩
        rw [ByteArray.size_append, str_list q, hq]
        omega
      have HFN := Lib.hid hfin
      clear hfin
      have hmid : ∀ x : UInt8, s[k] = x → (s.extract k (k + 1)).data.toList = [x] := by
        intro x hx
        have hg := HG.out
        rw [mid_extract, HSL.out, show k + 1 - k = 1 by omega]
        have := List.drop_eq_getElem_cons (l := l) (i := k) (by have := HSZ.out; omega)
        rw [this]
        rw [List.getElem?_eq_getElem (by have := HSZ.out; omega)] at hg
        injection hg with hg
        rw [hg, ← hc, hx]
        rfl
      have HMD := Lib.hid (hmid c hc)
      have hez : (s.extract k (k + 1)).size ≤ 1 := by rw [ByteArray.size_extract]; omega
      clear hmid
      by_cases a : c = 38
      · subst a
        have A : ((s[k].toNat : Int) == 38) = true := by rw [hc]; rfl
        have HW := Lib.hid (show wrC v 38 = [38, 97, 109, 112, 59] from rfl)
        clear hc
        go_wp2_with fail
        go_round
        case rel => exact HFN.out _ (by simp) HW.out _ rfl
        case measure => simp [intOf]; omega
      have hn : ∀ n : Nat, n < 256 → c ≠ n.toUInt8 → ((s[k].toNat : Int) == (n : Int)) = false := by
        intro n h1 h2
        rw [hc, beq_eq_false_iff_ne]
        intro e
        apply h2
        apply UInt8.toNat_inj.1
        simp
        omega
      have A : ((s[k].toNat : Int) == 38) = false := hn 38 (by omega) a
      by_cases b : c = 60
      · subst b
        have B : ((s[k].toNat : Int) == 60) = true := by rw [hc]; rfl
        have HW := Lib.hid (show wrC v 60 = [38, 108, 116, 59] from rfl)
        clear hc a hn
        go_wp2_with fail
        go_round
        case rel => exact HFN.out _ (by simp) HW.out _ rfl
        case measure => simp [intOf]; omega
      have B : ((s[k].toNat : Int) == 60) = false := hn 60 (by omega) b
      by_cases d : c = 62
      · subst d
        have C : ((s[k].toNat : Int) == 62) = true := by rw [hc]; rfl
        have HW := Lib.hid (show wrC v 62 = [38, 103, 116, 59] from rfl)
        clear hc a b hn
        go_wp2_with fail
        go_round
        case rel => exact HFN.out _ (by simp) HW.out _ rfl
        case measure => simp [intOf]; omega
      have C : ((s[k].toNat : Int) == 62) = false := hn 62 (by omega) d
      have hk1 : (k : Int) + 1 ≤ (s.size : Int) := by omega
      by_cases e : c = 34
      · subst e
        have D : ((s[k].toNat : Int) == 34) = true := by rw [hc]; rfl
        cases v with
        | true =>
          have HW := Lib.hid (show wrC true 34 = [38, 113, 117, 111, 116, 59] from rfl)
          clear hc a b d hn
          go_wp2_with fail
          go_round
          case rel => exact HFN.out _ (by simp) HW.out _ rfl
          case measure => simp [intOf]; omega
        | false =>
          have HW := Lib.hid (show wrC false 34 = [34] from rfl)
          clear hc a b d hn
          go_wp2_with fail
          go_round
          case rel => exact HFN.out _ (by simp) HW.out _ HMD.out
          case measure => simp [intOf]; omega
      have D : ((s[k].toNat : Int) == 34) = false := hn 34 (by omega) e
      have HW := Lib.hid (show wrC v c = [c] by apply wrC_same; unfold wrB; rw [if_neg a, if_neg b, if_neg d, if_neg (fun h => e h.1)])
      clear hc a b d e hn
      go_wp2_with fail
      go_round
      case rel => exact HFN.out _ (by simp) HW.out _ HMD.out
      case measure => simp [intOf]; omega
    · have hF : (⟨(escB v l).toArray⟩ : ByteArray) = o := by
        have := HO.out
        rw [List.take_of_length_le (by have := HSZ.out; omega)] at this
        rw [← this]
      have HF := Lib.hid hF
      clear hF
      go_wp2_with fail
      go_ret
      rw [HF.out]
      exact ⟨rfl, rfl⟩

end Go.Proofs.Ytenjhfkdbmljnaa
