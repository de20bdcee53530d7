/- refs.letters, digits, numbered: their walks. -/
import Derived.Test.YtillpoaobcdlmaaRefW
import Derived.Test.YtillpoaobcdlmaaMemB
namespace Go.Proofs.Ytillpoaobcdlmaa
open Go.RowKit
set_option linter.unusedVariables false

theorem dec_asc {c : UInt8} {t : List UInt8} (h : c.toNat < 128) : dec (c :: t) = (c.toNat, 1) := by
  unfold dec
  have e : byt (c :: t) 0 = c.toNat := rfl
  rw [e, if_pos h]
theorem dec_asc' {c : UInt8} {t : List UInt8} (h : (dec (c :: t)).1 < 128) : c.toNat < 128 := by
  have e : byt (c :: t) 0 = c.toNat := rfl
  unfold dec at h
  rw [e] at h
  repeat' split at h
  all_goals first | assumption | (simp only at h; omega)

theorem lowN_yes {c : UInt8} {t : List UInt8} (h : 97 ≤ c.toNat) (h' : c.toNat ≤ 122) : lowN (c :: t) = lowN t + 1 := by
  unfold lowN
  rw [List.takeWhile_cons, if_pos (by unfold isLow; simp [h, h'])]
  rfl
theorem lowN_no {c : UInt8} {t : List UInt8} (h : c.toNat < 97 ∨ 122 < c.toNat) : lowN (c :: t) = 0 := by
  unfold lowN
  rw [List.takeWhile_cons, if_neg (by unfold isLow; simp; omega)]
  rfl
theorem lowN_nil : lowN [] = 0 := rfl

structure LowAt (w wr : World) (s : ByteArray) (l : List UInt8) (pos : Nat) : Prop where
  le : pos ≤ l.length
  is : lowN l = pos + lowN (l.drop pos)
  it : wr.heap[w.heap.size]? = some (.stringIter s pos)
  bel : Below w.heap.size w wr

theorem drop_cons {l : List UInt8} {pos : Nat} (h : pos < l.length) : ∃ c, l.drop pos = c :: l.drop (pos + 1) := ⟨_, List.drop_eq_getElem_cons h⟩

set_option maxHeartbeats 1000000 in
set_option maxRecDepth 100000 in
theorem letters_any (s : ByteArray) (w : World) (hm : s.size ≤ 1000000) :
    Calls Try.prog 46 #[.string s] w fun e w' => e = .returned (.int .i64 (lowN s.data.toList)) ∧ Below w.heap.size w w' := by
  obtain ⟨l, hl⟩ : ∃ l, s.data.toList = l := ⟨_, rfl⟩
  have hsz : s.size = l.length := by rw [← hl]; simp
  rw [hl]
  have HSL := Lib.hid hl
  have HSZ := Lib.hid hsz
  clear hl hsz
  go_enter Try.func46, Try.ntmps46
  go_wp2_with fail
  go_loopw [] (fun wr => ∃ (pos : Nat), LowAt w wr s l pos) (fun wr => s.size - wr.iterPos w.heap.size)
  case atStart => exact ⟨0, by omega, by simp, World.iter_heap w s 0, (Below.refl _ w).alloc (Nat.le_refl _) _⟩
  case round =>
    obtain ⟨pos, HR⟩ := hrel
    have hit := HR.it
    have hle := HR.le
    by_cases hp : pos < l.length
    · have hps : pos < s.size := by rw [HSZ.out]; exact hp
      obtain ⟨r, d, hd⟩ : ∃ r d, dec (l.drop pos) = (r, d) := ⟨_, _, rfl⟩
      have hdec : Utf8.decode s pos = (r, d) := by rw [decode_dec, HSL.out, hd]
      have hnx : ∀ ty, (Instr.next (.pointer (some ⟨w.heap.size, 0, none⟩)) true ty).run Try.prog wr = .ok (.tuple #[.bool true, .int .i64 pos, .int .i32 r]) (wr.iterAt w.heap.size s (pos + d)) := fun ty => by
        rw [Lib.run_next_any_at wr w.heap.size s pos ty hit hps, hdec]
      have hit2 := Lib.iterAt_heap wr w.heap.size s pos (pos + d) hit
      have hbw2 := Lib.below_iterAt HR.bel (k := w.heap.size) (Nat.le_refl _) s (pos + d)
      have HIT2 := Lib.hid hit2
      obtain ⟨c, hc⟩ := drop_cons hp
      have HC := Lib.hid hc
      rw [hc] at hd
      by_cases hin : 97 ≤ r ∧ r ≤ 122
      · obtain ⟨h1, h2⟩ := hin
        have ha : c.toNat < 128 := dec_asc' (t := l.drop (pos + 1)) (by rw [hd]; simp only; omega)
        rw [dec_asc ha] at hd
        injection hd with e1 e2
        have HW := Lib.hid (lowN_yes (c := c) (t := l.drop (pos + 1)) (by omega) (by omega))
        have HE := Lib.hid e2
        clear hdec hit hit2 hc e1 e2
        go_wp2_with fail
        go_roundw
        case rel =>
          refine ⟨pos + d, by have := HE.out; omega, ?_, HIT2.out, hbw2⟩
          rw [HR.is, HC.out, HW.out, ← HE.out]
          omega
        case measure => simp only [World.iterPos, HIT2.out, HR.it]; have := HSZ.out; have := HE.out; omega
      · have hno : c.toNat < 97 ∨ 122 < c.toNat := by
          by_cases ha : c.toNat < 128
          · rw [dec_asc ha] at hd
            injection hd with e1 e2
            omega
          · omega
        have HF := Lib.hid (show lowN l = pos by rw [HR.is, HC.out, lowN_no hno]; rfl)
        clear hdec hit hit2 hc hd
        rcases (show r < 97 ∨ (97 ≤ r ∧ 122 < r) by omega) with h | ⟨h, h'⟩
        all_goals
          clear hin
          go_wp2_with fail
          go_ret
          exact ⟨by rw [HF.out]; rfl, hbw2⟩
    · have hps : ¬ pos < s.size := by rw [HSZ.out]; exact hp
      have hnx : ∀ ty, (Instr.next (.pointer (some ⟨w.heap.size, 0, none⟩)) true ty).run Try.prog wr = _ := fun ty => Lib.run_next_end_at wr w.heap.size s pos ty hit hps
      have hf : lowN l = s.size := by rw [HR.is, List.drop_of_length_le (by omega), lowN_nil, HSZ.out]; omega
      have HF := Lib.hid hf
      clear hf hit hps
      go_wp2_with fail
      go_ret
      exact ⟨by rw [HF.out]; rfl, HR.bel⟩

/-! ### digits -/
theorem pow_step {a b d : Int} {n : Nat} (ha : a < b ^ n) (hb : 0 < b) (hd : d < b) : a * b + d < b ^ (n + 1) := by
  have h1 : (a + 1) * b ≤ b ^ n * b := Int.mul_le_mul_of_nonneg_right (by omega) (by omega)
  rw [Int.add_mul] at h1
  rw [Int.pow_succ]
  omega
theorem pow_le {b : Int} {n m : Nat} (hb : 1 ≤ b) (h : n ≤ m) : b ^ n ≤ b ^ m := by
  obtain ⟨k, rfl⟩ := Nat.exists_eq_add_of_le h
  clear h
  induction k with
  | zero => exact Int.le_refl _
  | succ k ih =>
    rw [← Nat.add_assoc, Int.pow_succ]
    have h0 : 0 ≤ b ^ (n + k) := Int.le_of_lt (Int.pow_pos (by omega))
    have := Int.mul_le_mul_of_nonneg_left hb h0
    omega

structure DigAt (w wr : World) (s : ByteArray) (l : List UInt8) (m : Nat) (b a : Int) (n : Nat) : Prop where
  le : n ≤ l.length
  lm : n ≤ m
  is : digF m b 0 l = ((digF (m - n) b a (l.drop n)).1, (digF (m - n) b a (l.drop n)).2 + n)
  lo : 0 ≤ a
  hi : a < b ^ n
  it : wr.heap[w.heap.size]? = some (.stringIter s n)
  bel : Below w.heap.size w wr

theorem digF_zero (b a : Int) (l : List UInt8) : digF 0 b a l = (a, 0) := by cases l <;> rfl
theorem digF_nil (m : Nat) (b a : Int) : digF m b a [] = (a, 0) := by cases m <;> rfl
theorem digF_no {m : Nat} {b a : Int} {c : UInt8} {t : List UInt8} (h : digR c.toNat < 0 ∨ b ≤ digR c.toNat) : digF m b a (c :: t) = (a, 0) := by
  cases m with
  | zero => rfl
  | succ m => unfold digF; rw [if_pos h]
theorem digF_yes {m : Nat} {b a : Int} {c : UInt8} {t : List UInt8} (h : 0 ≤ digR c.toNat) (h' : digR c.toNat < b) :
    digF (m + 1) b a (c :: t) = ((digF m b (a * b + digR c.toNat) t).1, (digF m b (a * b + digR c.toNat) t).2 + 1) := by
  conv => lhs; unfold digF
  rw [if_neg (by omega)]

theorem ret_pair {a a' n n' : Int} (h : a = a') (h' : n = n') : Ending.returned (.tuple #[.int .i32 a, .int .i64 n]) = .returned (.tuple #[.int .i32 a', .int .i64 n']) := by rw [h, h']

set_option maxHeartbeats 2000000 in
set_option maxRecDepth 100000 in
theorem digits_any (s : ByteArray) (b : Int) (m : Nat) (w : World) (hm : s.size ≤ 1000000) (hb : 2 ≤ b) (hb' : b ≤ 16) (hp : b ^ m ≤ 100000000) (hm7 : m ≤ 7) :
    Calls Try.prog 52 #[.string s, .int .i32 b, .int .i64 m] w fun e w' => e = .returned (.tuple #[.int .i32 (digF m b 0 s.data.toList).1, .int .i64 (digF m b 0 s.data.toList).2]) ∧ Below w.heap.size w w' := by
  obtain ⟨l, hl⟩ : ∃ l, s.data.toList = l := ⟨_, rfl⟩
  have hsz : s.size = l.length := by rw [← hl]; simp
  rw [hl]
  have HSL := Lib.hid hl
  have HSZ := Lib.hid hsz
  clear hl hsz
  go_enter Try.func52, Try.ntmps52
  go_wp2_with fail
  go_loopw [8, 9] (fun x y wr => ∃ (a : Int) (n : Nat), x = .int .i32 a ∧ y = .int .i64 n ∧ DigAt w wr s l m b a n) (fun _ _ wr => s.size - wr.iterPos w.heap.size)
  case atStart => exact ⟨0, 0, rfl, rfl, by omega, by omega, by simp, by omega, by simp, World.iter_heap w s 0, (Below.refl _ w).alloc (Nat.le_refl _) _⟩
  case round =>
    obtain ⟨a, n, rfl, rfl, HR⟩ := hrel
    have hit := HR.it
    have hle := HR.le
    have hlm := HR.lm
    have hlo := HR.lo
    by_cases hlt : n < l.length
    · have hps : n < s.size := by rw [HSZ.out]; exact hlt
      obtain ⟨r, d, hd⟩ : ∃ r d, dec (l.drop n) = (r, d) := ⟨_, _, rfl⟩
      have hdec : Utf8.decode s n = (r, d) := by rw [decode_dec, HSL.out, hd]
      have hnx : ∀ ty, (Instr.next (.pointer (some ⟨w.heap.size, 0, none⟩)) true ty).run Try.prog wr = .ok (.tuple #[.bool true, .int .i64 n, .int .i32 r]) (wr.iterAt w.heap.size s (n + d)) := fun ty => by
        rw [Lib.run_next_any_at wr w.heap.size s n ty hit hps, hdec]
      have hok := dec_ok (l.drop n)
      rw [hd] at hok
      have hr1 : (r : Int) ≤ 1114111 := by unfold okR at hok; simp only at hok; omega
      have hit2 := Lib.iterAt_heap wr w.heap.size s n (n + d) hit
      have hbw2 := Lib.below_iterAt HR.bel (k := w.heap.size) (Nat.le_refl _) s (n + d)
      have HIT2 := Lib.hid hit2
      obtain ⟨c, hc⟩ := drop_cons hlt
      have HC := Lib.hid hc
      have hdg : digR r = digR c.toNat ∧ (0 ≤ digR r → d = 1) := by
        rw [hc] at hd
        by_cases ha : c.toNat < 128
        · rw [dec_asc ha] at hd
          injection hd with e1 e2
          exact ⟨by rw [e1], fun _ => e2.symm⟩
        · have hr : 128 ≤ r := by
            rcases Nat.lt_or_ge r 128 with h | h
            · exact absurd (dec_asc' (c := c) (t := l.drop (n + 1)) (by rw [hd]; exact h)) ha
            · exact h
          have h1 : ∀ q : Int, 128 ≤ q → digR q = -1 := by
            intro q hq
            unfold digR
            rw [if_neg (by omega), if_neg (by omega), if_neg (by omega)]
          have hq1 := h1 (r : Int) (by omega)
          have hq2 := h1 (c.toNat : Int) (by omega)
          rw [hq1, hq2]
          exact ⟨rfl, fun h => absurd h (by omega)⟩
      have hbd := digR_bd (r : Int)
      have hstep := pow_step (a := a) (b := b) (d := digR r) (n := n) HR.hi (by omega)
      obtain ⟨q, hq⟩ : ∃ q, digR (r : Int) = q := ⟨_, rfl⟩
      have HQ := Lib.hid hq
      have hdg1 := hdg.1
      have hdg2 := hdg.2
      rw [hq] at hbd hstep hdg1 hdg2
      have HD := Lib.hid (And.intro hdg1 hdg2)
      clear hdec hit hit2 hc hd hok hdg hdg1 hdg2 hq
      by_cases hnm : n = m
      · have HF := Lib.hid (show digF m b 0 l = (a, n) by rw [HR.is, hnm, Nat.sub_self, digF_zero]; simp)
        subst hnm
        go_wp2_with fail
        refine (digit_any _ _ (by omega) (by omega)).mono ?_
        rw [HQ.out]
        rintro e w2 ⟨rfl, rfl⟩
        go_wp2_with fail
        go_ret2
        exact ⟨by rw [HF.out]; rfl, hbw2⟩
      have BN : ((n : Int) == (m : Int)) = false := by simp; omega
      by_cases hq0 : q < 0
      · have HF := Lib.hid (show digF m b 0 l = (a, n) by rw [HR.is, HC.out, digF_no (Or.inl (by have := HD.out.1; omega))]; simp)
        clear hstep hnm
        go_wp2_with fail
        refine (digit_any _ _ (by omega) (by omega)).mono ?_
        rw [HQ.out]
        rintro e w2 ⟨rfl, rfl⟩
        go_wp2_with fail
        go_ret2
        exact ⟨by rw [HF.out]; rfl, hbw2⟩
      by_cases hqb : b ≤ q
      · have HF := Lib.hid (show digF m b 0 l = (a, n) by rw [HR.is, HC.out, digF_no (Or.inr (by have := HD.out.1; omega))]; simp)
        clear hstep hnm
        go_wp2_with fail
        refine (digit_any _ _ (by omega) (by omega)).mono ?_
        rw [HQ.out]
        rintro e w2 ⟨rfl, rfl⟩
        go_wp2_with fail
        go_ret2
        exact ⟨by rw [HF.out]; rfl, hbw2⟩
      · have hs1 := hstep (by omega)
        have hs2 : b ^ (n + 1) ≤ 100000000 := Int.le_trans (pow_le (by omega) (by omega)) hp
        have hs3 : 0 ≤ a * b := Int.mul_nonneg hlo (by omega)
        have hs4 : a * b + q ≤ 100000000 := by omega
        have hs5 : a * b ≤ 100000000 := by omega
        have HS1 := Lib.hid hs1
        have HY := Lib.hid (show digF m b 0 l = ((digF (m - (n + 1)) b (a * b + q) (l.drop (n + 1))).1, (digF (m - (n + 1)) b (a * b + q) (l.drop (n + 1))).2 + (n + 1)) by
          have e1 := HD.out.1
          rw [HR.is, HC.out, show m - n = (m - (n + 1)) + 1 by omega, digF_yes (by omega) (by omega), ← e1]
          simp only [Prod.mk.injEq, true_and]
          omega)
        have hnm' : n < m := by omega
        have h1 : d = 1 := HD.out.2 (by omega)
        subst h1
        clear hstep hnm hs1 hs2
        go_wp2_with fail
        refine (digit_any _ _ (by omega) (by omega)).mono ?_
        rw [HQ.out]
        rintro e w2 ⟨rfl, rfl⟩
        go_wp2_with fail
        go_roundw
        case rel => exact ⟨a * b + q, n + 1, rfl, by go_num, by omega, by omega, HY.out, by omega, HS1.out, HIT2.out, hbw2⟩
        case measure => simp only [World.iterPos, HIT2.out, HR.it]; have := HSZ.out; omega
    · have hps : ¬ n < s.size := by rw [HSZ.out]; exact hlt
      have hnx : ∀ ty, (Instr.next (.pointer (some ⟨w.heap.size, 0, none⟩)) true ty).run Try.prog wr = _ := fun ty => Lib.run_next_end_at wr w.heap.size s n ty hit hps
      have HF := Lib.hid (show digF m b 0 l = (a, n) by rw [HR.is, List.drop_of_length_le (by omega), digF_nil]; simp)
      clear hit hps
      go_wp2_with fail
      go_ret2
      exact ⟨by rw [HF.out]; rfl, HR.bel⟩

end Go.Proofs.Ytillpoaobcdlmaa
