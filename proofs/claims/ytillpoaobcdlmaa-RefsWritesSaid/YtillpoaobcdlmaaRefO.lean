/- refs.numbered, told, one, One: their walks. -/
import Derived.Test.YtillpoaobcdlmaaRefD
import Derived.Test.YtillpoaobcdlmaaNames
import Derived.Test.YtillpoaobcdlmaaIs
namespace Go.Proofs.Ytillpoaobcdlmaa
open Go.RowKit
set_option linter.unusedVariables false

theorem digF_bd : ∀ (m : Nat) (b a : Int) (l : List UInt8) (n : Nat), 2 ≤ b → 0 ≤ a → a < b ^ n → 0 ≤ (digF m b a l).1 ∧ (digF m b a l).1 < b ^ (n + (digF m b a l).2)
  | 0, b, a, l, n, _, h0, h1 => by rw [digF_zero]; exact ⟨h0, h1⟩
  | m + 1, b, a, [], n, _, h0, h1 => by rw [digF_nil]; exact ⟨h0, h1⟩
  | m + 1, b, a, c :: t, n, hb, h0, h1 => by
    by_cases h : digR c.toNat < 0 ∨ b ≤ digR c.toNat
    · rw [digF_no h]; exact ⟨h0, h1⟩
    · rw [digF_yes (by omega) (by omega)]
      have hs := pow_step (d := digR c.toNat) h1 (by omega) (by omega)
      have h3 : 0 ≤ a * b := Int.mul_nonneg h0 (by omega)
      have ih := digF_bd m b (a * b + digR c.toNat) t (n + 1) hb (by omega) hs
      refine ⟨ih.1, ?_⟩
      have := ih.2
      rw [Nat.add_assoc, Nat.add_comm 1] at this
      exact this

theorem numB_zero {l : List UInt8} {k : Nat} {b : Int} {m : Nat} (h : (digF m b 0 (l.drop k)).2 = 0) : numB l k b m = (0, 0) := by unfold numB; rw [if_pos h]
theorem numB_some {l : List UInt8} {k : Nat} {b : Int} {m : Nat} (h : (digF m b 0 (l.drop k)).2 ≠ 0) : numB l k b m = (charB (digF m b 0 (l.drop k)).1, k + (digF m b 0 (l.drop k)).2) := by unfold numB; rw [if_neg h]

set_option maxHeartbeats 1000000 in
theorem numbered_any (s : ByteArray) (k : Nat) (b : Int) (m : Nat) (w : World) (hm : s.size ≤ 1000000) (hk : k ≤ s.size) (hk2 : k ≤ 100) (hb : 2 ≤ b) (hb' : b ≤ 16) (hp : b ^ m ≤ 100000000) (hm7 : m ≤ 7) :
    Calls Try.prog 45 #[.string s, .int .i64 k, .int .i32 b, .int .i64 m] w fun e w' => e = .returned (.tuple #[.int .i32 (numB s.data.toList k b m).1, .int .i64 (numB s.data.toList k b m).2]) ∧ Below w.heap.size w w' := by
  have hlen := digF_len m b 0 (s.data.toList.drop k)
  have hlo := digF_bd m b 0 (s.data.toList.drop k) 0 hb (Int.le_refl _) (by simp)
  have h2 := pow_le (b := b) (n := 0 + (digF m b 0 (s.data.toList.drop k)).2) (m := m) (by omega) (by omega)
  have hn0 := numB_zero (l := s.data.toList) (k := k) (b := b) (m := m)
  have hn1 := numB_some (l := s.data.toList) (k := k) (b := b) (m := m)
  have hk3 : (k : Int) ≤ (s.size : Int) := by omega
  obtain ⟨⟨a, n⟩, hD⟩ : ∃ p, digF m b 0 (s.data.toList.drop k) = p := ⟨_, rfl⟩
  rw [hD] at hlen hlo h2 hn0 hn1
  simp only at hlen hlo h2 hn0 hn1
  have HD := Lib.hid hD
  have H0 := Lib.hid hn0
  have H1 := Lib.hid hn1
  clear hD hn0 hn1
  by_cases h0 : n = 0
  · have HF := Lib.hid (H0.out h0)
    subst h0
    go_enter Try.func45, Try.ntmps45
    go_wp2_with fail
    refine (digits_any (s.extract k s.size) b m _ (by rw [ByteArray.size_extract]; omega) hb hb' hp hm7).mono ?_
    rw [drop_extract, HD.out]
    rintro e w1 ⟨rfl, hb1⟩
    go_wp2_with fail
    go_ret2
    exact ⟨by rw [HF.out]; rfl, hb1⟩
  · have B0 : ((n : Int) == 0) = false := by simp; omega
    have HF := Lib.hid (H1.out h0)
    clear h0
    go_enter Try.func45, Try.ntmps45
    go_wp2_with fail
    refine (digits_any (s.extract k s.size) b m _ (by rw [ByteArray.size_extract]; omega) hb hb' hp hm7).mono ?_
    rw [drop_extract, HD.out]
    rintro e w1 ⟨rfl, hb1⟩
    go_wp2_with fail
    refine (character_any a _ (by omega) (by omega)).mono ?_
    rintro e w2 ⟨rfl, rfl⟩
    go_wp2_with fail
    go_ret2
    exact ⟨by rw [HF.out]; exact ret_pair rfl (by simp), hb1⟩

theorem toldB_x {l : List UInt8} (h : Lib.hasPrefix l [35, 120] = true) : toldB l = numB l 2 16 6 := by unfold toldB; rw [if_pos h]
theorem toldB_X {l : List UInt8} (h0 : Lib.hasPrefix l [35, 120] = false) (h : Lib.hasPrefix l [35, 88] = true) : toldB l = numB l 2 16 6 := by unfold toldB; rw [if_neg (by rw [h0]; simp), if_pos h]
theorem toldB_d {l : List UInt8} (h0 : Lib.hasPrefix l [35, 120] = false) (h1 : Lib.hasPrefix l [35, 88] = false) (h : Lib.hasPrefix l [35] = true) : toldB l = numB l 1 10 7 := by
  unfold toldB; rw [if_neg (by rw [h0]; simp), if_neg (by rw [h1]; simp), if_pos h]
theorem toldB_n {l : List UInt8} (h0 : Lib.hasPrefix l [35, 120] = false) (h1 : Lib.hasPrefix l [35, 88] = false) (h : Lib.hasPrefix l [35] = false) :
    toldB l = match nameB (l.take (lowN l)) with | some r => (r, lowN l) | none => (0, 0) := by
  unfold toldB; rw [if_neg (by rw [h0]; simp), if_neg (by rw [h1]; simp), if_neg (by rw [h]; simp)]
  cases nameB (l.take (lowN l)) <;> rfl

theorem prefix_q (s p : ByteArray) (q : Bool) (w : World) (h : Lib.hasPrefix s.data.toList p.data.toList = q) :
    Calls Try.prog 35 #[.string s, .string p] w fun e w' => e = .returned (.bool q) ∧ w = w' := by
  refine (Try.strings_HasPrefix s p w).mono ?_
  rintro e w1 ⟨rfl, rfl⟩
  exact ⟨by rw [h], rfl⟩

theorem ret_pairN {a a' : Int} {n n' : Nat} (h : (a', n') = (a, n)) : Ending.returned (.tuple #[.int .i32 a, .int .i64 n]) = .returned (.tuple #[.int .i32 (a', n').1, .int .i64 ((a', n').2 : Nat)]) := by
  injection h with h1 h2
  rw [h1, h2]

set_option maxHeartbeats 2000000 in
set_option maxRecDepth 100000 in
theorem told_any (s : ByteArray) (B : Nat) (w : World) (hm : s.size ≤ 1000000) (hN : Names w B 15 nameB) :
    Calls Try.prog 36 #[.string s, .map (some B)] w fun e w' => e = .returned (.tuple #[.int .i32 (toldB s.data.toList).1, .int .i64 (toldB s.data.toList).2]) ∧ Below w.heap.size w w' := by
  obtain ⟨l, hl⟩ : ∃ l, s.data.toList = l := ⟨_, rfl⟩
  have hsz : s.size = l.length := by rw [← hl]; simp
  have HSL := Lib.hid hl
  have HSZ := Lib.hid hsz
  have n1 := numbered_any s 2 16 6 w hm
  have n2 := numbered_any s 1 10 7 w hm
  have nl := letters_any s w hm
  rw [hl] at n1 n2 nl ⊢
  have N1 := Lib.hid n1
  have N2 := Lib.hid n2
  have NL := Lib.hid nl
  clear hl hsz n1 n2 nl
  obtain ⟨q1, h1⟩ : ∃ q, Lib.hasPrefix l [35, 120] = q := ⟨_, rfl⟩
  obtain ⟨q2, h2⟩ : ∃ q, Lib.hasPrefix l [35, 88] = q := ⟨_, rfl⟩
  obtain ⟨q3, h3⟩ : ∃ q, Lib.hasPrefix l [35] = q := ⟨_, rfl⟩
  have P1 := Lib.hid (fun w => prefix_q s ⟨#[35, 120]⟩ q1 w (by rw [HSL.out]; exact h1))
  have P2 := Lib.hid (fun w => prefix_q s ⟨#[35, 88]⟩ q2 w (by rw [HSL.out]; exact h2))
  have P3 := Lib.hid (fun w => prefix_q s ⟨#[35]⟩ q3 w (by rw [HSL.out]; exact h3))
  have HNm := Lib.hid hN
  clear hN
  cases q1 with
  | true =>
    have hk : 2 ≤ s.size := by obtain ⟨t, ht⟩ := pre_two h1; rw [HSZ.out, ht]; simp
    have HF := Lib.hid (toldB_x h1)
    clear h1 h2 h3
    go_enter Try.func36, Try.ntmps36
    go_wp2_with fail
    refine (P1.out _).mono ?_
    rintro e w1 ⟨rfl, rfl⟩
    go_wp2_with fail
    refine (N1.out hk (by omega) (by omega) (by omega) (by decide) (by omega)).mono ?_
    rintro e w2 ⟨rfl, hb2⟩
    go_wp2_with fail
    go_ret2
    exact ⟨by rw [HF.out]; rfl, hb2⟩
  | false =>
    cases q2 with
    | true =>
      have hk : 2 ≤ s.size := by obtain ⟨t, ht⟩ := pre_two h2; rw [HSZ.out, ht]; simp
      have HF := Lib.hid (toldB_X h1 h2)
      clear h1 h2 h3
      go_enter Try.func36, Try.ntmps36
      go_wp2_with fail
      refine (P1.out _).mono ?_
      rintro e w1 ⟨rfl, rfl⟩
      go_wp2_with fail
      refine (P2.out _).mono ?_
      rintro e w1 ⟨rfl, rfl⟩
      go_wp2_with fail
      refine (N1.out hk (by omega) (by omega) (by omega) (by decide) (by omega)).mono ?_
      rintro e w2 ⟨rfl, hb2⟩
      go_wp2_with fail
      go_ret2
      exact ⟨by rw [HF.out]; rfl, hb2⟩
    | false =>
      cases q3 with
      | true =>
        have hk : 1 ≤ s.size := by obtain ⟨t, ht⟩ := pre_one h3; rw [HSZ.out, ht]; simp
        have HF := Lib.hid (toldB_d h1 h2 h3)
        clear h1 h2 h3
        go_enter Try.func36, Try.ntmps36
        go_wp2_with fail
        refine (P1.out _).mono ?_
        rintro e w1 ⟨rfl, rfl⟩
        go_wp2_with fail
        refine (P2.out _).mono ?_
        rintro e w1 ⟨rfl, rfl⟩
        go_wp2_with fail
        refine (P3.out _).mono ?_
        rintro e w1 ⟨rfl, rfl⟩
        go_wp2_with fail
        refine (N2.out hk (by omega) (by omega) (by omega) (by decide) (by omega)).mono ?_
        rintro e w2 ⟨rfl, hb2⟩
        go_wp2_with fail
        go_ret2
        exact ⟨by rw [HF.out]; rfl, hb2⟩
      | false =>
        have hF := toldB_n h1 h2 h3
        have hle := lowN_le l
        have htx : (s.extract 0 (lowN l)).data.toList = l.take (lowN l) := by rw [take_extract, HSL.out]
        have htz : (s.extract 0 (lowN l)).size ≤ maxLen := by rw [ByteArray.size_extract]; unfold maxLen; omega
        have hlk : ∀ w2 : World, Below w.heap.size w w2 → (Instr.lookup 45 (.map (some B)) (.string (s.extract 0 (lowN l))) true).run Try.prog w2 = .ok (.tuple #[.int .i32 ((nameB (l.take (lowN l))).getD 0), .bool (nameB (l.take (lowN l))).isSome]) w2 := by
          intro w2 hb
          have := (HNm.out.below hb).look (s.extract 0 (lowN l)) htz
          rw [htx] at this
          exact this
        obtain ⟨n, hn⟩ : ∃ n, lowN l = n := ⟨_, rfl⟩
        obtain ⟨o, ho⟩ : ∃ o, nameB (l.take (lowN l)) = o := ⟨_, rfl⟩
        rw [ho] at hlk hF
        rw [hn] at hlk hle hF
        have hns : (n : Int) ≤ (s.size : Int) := by have := HSZ.out; omega
        have HLK := Lib.hid hlk
        have HN2 := Lib.hid hn
        clear h1 h2 h3 hlk hn htx htz ho
        cases o with
        | none =>
          have HF := Lib.hid hF
          clear hF
          go_enter Try.func36, Try.ntmps36
          go_wp2_with fail
          refine (P1.out _).mono ?_
          rintro e w1 ⟨rfl, rfl⟩
          go_wp2_with fail
          refine (P2.out _).mono ?_
          rintro e w1 ⟨rfl, rfl⟩
          go_wp2_with fail
          refine (P3.out _).mono ?_
          rintro e w1 ⟨rfl, rfl⟩
          go_wp2_with fail
          refine NL.out.mono ?_
          rw [HN2.out]
          rintro e w2 ⟨rfl, hb2⟩
          have hl2 := HLK.out w2 hb2
          simp only [Option.getD_none, Option.isSome_none] at hl2
          go_wp2_with fail
          go_ret2
          exact ⟨by rw [HF.out]; rfl, hb2⟩
        | some r =>
          have HF := Lib.hid hF
          clear hF
          go_enter Try.func36, Try.ntmps36
          go_wp2_with fail
          refine (P1.out _).mono ?_
          rintro e w1 ⟨rfl, rfl⟩
          go_wp2_with fail
          refine (P2.out _).mono ?_
          rintro e w1 ⟨rfl, rfl⟩
          go_wp2_with fail
          refine (P3.out _).mono ?_
          rintro e w1 ⟨rfl, rfl⟩
          go_wp2_with fail
          refine NL.out.mono ?_
          rw [HN2.out]
          rintro e w2 ⟨rfl, hb2⟩
          have hl2 := HLK.out w2 hb2
          simp only [Option.getD_some, Option.isSome_some] at hl2
          go_wp2_with fail
          go_ret2
          exact ⟨by rw [HF.out]; rfl, hb2⟩

theorem oneB_none {l : List UInt8} (h : Lib.hasPrefix l [38] = false) : oneB l = (0, 0) := by unfold oneB; rw [if_neg (by rw [h]; simp)]
theorem oneB_zero {l : List UInt8} (h : (toldB (l.drop 1)).2 = 0) : oneB l = (0, 0) := by
  unfold oneB
  by_cases h0 : Lib.hasPrefix l [38] = true
  · rw [if_pos h0, if_pos h]
  · rw [if_neg h0]
theorem oneB_no {l : List UInt8} (h : Lib.hasPrefix (l.drop (1 + (toldB (l.drop 1)).2)) [59] = false) : oneB l = (0, 0) := by
  by_cases h1 : (toldB (l.drop 1)).2 = 0
  · exact oneB_zero h1
  unfold oneB
  by_cases h0 : Lib.hasPrefix l [38] = true
  · rw [if_pos h0, if_neg h1, if_neg (by rw [h]; simp)]
  · rw [if_neg h0]
theorem oneB_yes {l : List UInt8} (h0 : Lib.hasPrefix l [38] = true) (h1 : (toldB (l.drop 1)).2 ≠ 0) (h : Lib.hasPrefix (l.drop (1 + (toldB (l.drop 1)).2)) [59] = true) :
    oneB l = ((toldB (l.drop 1)).1, (toldB (l.drop 1)).2 + 2) := by unfold oneB; rw [if_pos h0, if_neg h1, if_pos h]

set_option maxHeartbeats 2000000 in
set_option maxRecDepth 100000 in
theorem rone_any (s : ByteArray) (B : Nat) (w : World) (hm : s.size ≤ 1000000) (hN : Names w B 15 nameB) :
    Calls Try.prog 24 #[.string s, .map (some B)] w fun e w' => e = .returned (.tuple #[.int .i32 (oneB s.data.toList).1, .int .i64 (oneB s.data.toList).2]) ∧ Below w.heap.size w w' := by
  obtain ⟨l, hl⟩ : ∃ l, s.data.toList = l := ⟨_, rfl⟩
  have hsz : s.size = l.length := by rw [← hl]; simp
  have HSL := Lib.hid hl
  have HSZ := Lib.hid hsz
  have nt := told_any (s.extract 1 s.size) B w (by rw [ByteArray.size_extract]; omega) hN
  rw [drop_extract, hl] at nt
  rw [hl]
  clear hl hsz
  obtain ⟨q1, h1⟩ : ∃ q, Lib.hasPrefix l [38] = q := ⟨_, rfl⟩
  have P1 := Lib.hid (fun w => prefix_q s ⟨#[38]⟩ q1 w (by rw [HSL.out]; exact h1))
  cases q1 with
  | false =>
    have HF := Lib.hid (oneB_none h1)
    clear h1 nt
    go_enter Try.func24, Try.ntmps24
    go_wp2_with fail
    refine (P1.out _).mono ?_
    rintro e w1 ⟨rfl, rfl⟩
    go_wp2_with fail
    go_ret2
    exact ⟨by rw [HF.out]; rfl, Below.refl _ _⟩
  | true =>
    have hk : 1 ≤ s.size := by obtain ⟨t, ht⟩ := pre_one h1; rw [HSZ.out, ht]; simp
    have hk' : (1 : Int) ≤ (s.size : Int) := by omega
    have hz := oneB_zero (l := l)
    have hno := oneB_no (l := l)
    have hyes := oneB_yes (l := l) h1
    have hfact := told_fact (l.drop 1)
    obtain ⟨⟨r, n⟩, hT⟩ : ∃ p, toldB (l.drop 1) = p := ⟨_, rfl⟩
    rw [hT] at hz hno hyes nt hfact
    simp only at hz hno hyes nt hfact
    have NT := Lib.hid nt
    clear h1 nt hT hN
    by_cases h0 : n = 0
    · have HF := Lib.hid (hz h0)
      subst h0
      clear hz hno hyes hfact
      go_enter Try.func24, Try.ntmps24
      go_wp2_with fail
      refine (P1.out _).mono ?_
      rintro e w1 ⟨rfl, rfl⟩
      go_wp2_with fail
      refine NT.out.mono ?_
      rintro e w2 ⟨rfl, hb2⟩
      go_wp2_with fail
      go_ret2
      exact ⟨by rw [HF.out]; rfl, hb2⟩
    · have hf := (hfact h0).2.2.2.1
      rw [List.length_drop] at hf
      have hn1 : (1 : Int) + (n : Int) ≤ (s.size : Int) := by have := HSZ.out; omega
      have hn2 : (n : Int) ≤ 1000000 := by omega
      have BN : ((n : Int) == 0) = false := by simp; omega
      obtain ⟨q2, h2⟩ : ∃ q, Lib.hasPrefix (l.drop (1 + n)) [59] = q := ⟨_, rfl⟩
      have P2 := Lib.hid (fun w => prefix_q (s.extract (1 + n) s.size) ⟨#[59]⟩ q2 w (by rw [drop_extract, HSL.out]; exact h2))
      cases q2 with
      | false =>
        have HF := Lib.hid (hno h2)
        clear h2 h0 hz hno hyes hfact hf
        go_enter Try.func24, Try.ntmps24
        go_wp2_with fail
        refine (P1.out _).mono ?_
        rintro e w1 ⟨rfl, rfl⟩
        go_wp2_with fail
        refine NT.out.mono ?_
        rintro e w2 ⟨rfl, hb2⟩
        go_wp2_with fail
        refine (P2.out _).mono ?_
        rintro e w3 ⟨rfl, rfl⟩
        go_wp2_with fail
        go_ret2
        exact ⟨by rw [HF.out]; rfl, hb2⟩
      | true =>
        have HF := Lib.hid (hyes h0 h2)
        clear h2 h0 hz hno hyes hfact hf
        go_enter Try.func24, Try.ntmps24
        go_wp2_with fail
        refine (P1.out _).mono ?_
        rintro e w1 ⟨rfl, rfl⟩
        go_wp2_with fail
        refine NT.out.mono ?_
        rintro e w2 ⟨rfl, hb2⟩
        go_wp2_with fail
        refine (P2.out _).mono ?_
        rintro e w3 ⟨rfl, rfl⟩
        go_wp2_with fail
        go_ret2
        exact ⟨by rw [HF.out]; exact ret_pair rfl (by simp), hb2⟩

set_option maxHeartbeats 1000000 in
theorem One_any (s : ByteArray) (w : World) (hm : s.size ≤ 1000000) :
    Calls Try.prog 15 #[.string s] w fun e w' => e = .returned (.tuple #[.int .i32 (oneB s.data.toList).1, .int .i64 (oneB s.data.toList).2]) ∧ Below w.heap.size w w' := by
  go_enter Try.func15, Try.ntmps15
  go_wp2_with fail
  refine (names_any _).mono ?_
  rintro e w1 ⟨b, rfl, hn, hb1⟩
  go_wp2_with fail
  refine (rone_any s b _ hm hn).mono ?_
  rintro e w2 ⟨rfl, hb2⟩
  have hB := below_after hb1 hb2
  go_wp2_with fail
  go_ret2
  exact ⟨rfl, hB⟩

end Go.Proofs.Ytillpoaobcdlmaa
