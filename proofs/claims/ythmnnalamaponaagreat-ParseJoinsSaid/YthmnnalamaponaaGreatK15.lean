/- Parts of the proof, in build order: RefD Map Names RefO RefC Build RefE TkG. -/
import Derived.Test.YthmnnalamaponaaGreatK14
import Derived.Test.YthmnnalamaponaaGreatK01
import Derived.Test.YthmnnalamaponaaGreatK02
import Derived.Maps.Own
import Derived.Maps.OwnOps
import Derived.Maps.OwnSet
import Derived.Maps.Views
import Derived.StringKeys
import Derived.Test.YthmnnalamaponaaGreatK05
import Derived.Test.YthmnnalamaponaaGreatK13
import Derived.BigCall
import Derived.Lib.IndexBytes
import Derived.Shelf.Strings.BuilderCap

/- Part RefD. -/
namespace Go.Proofs.YthmnnalamaponaaGreat
open Go.RowKit
set_option linter.unusedVariables false

theorem dec_asc {c : UInt8} {t : List UInt8} (h : c.toNat < 128) : dec (c :: t) = (c.toNat, 1) := by
  unfold dec
  have e : byt (c :: t) 0 = c.toNat := rfl
  rw [e, if_pos h]
theorem dec_asc' {c : UInt8} {t : List UInt8} (h : (dec (c :: t)).1 < 128) : c.toNat < 128 := by
  have e : byt (c :: t) 0 = c.toNat := rfl
  unfold dec at h
  rw [e] at h
  repeat' split at h
  all_goals first | assumption | (simp only at h; omega)

theorem lowN_yes {c : UInt8} {t : List UInt8} (h : 97 ≤ c.toNat) (h' : c.toNat ≤ 122) : lowN (c :: t) = lowN t + 1 := by
  unfold lowN
  rw [List.takeWhile_cons, if_pos (by unfold isLow; simp [h, h'])]
  rfl
theorem lowN_no {c : UInt8} {t : List UInt8} (h : c.toNat < 97 ∨ 122 < c.toNat) : lowN (c :: t) = 0 := by
  unfold lowN
  rw [List.takeWhile_cons, if_neg (by unfold isLow; simp; omega)]
  rfl
theorem lowN_nil : lowN [] = 0 := rfl

structure LowAt (w wr : World) (s : ByteArray) (l : List UInt8) (pos : Nat) : Prop where
  le : pos ≤ l.length
  is : lowN l = pos + lowN (l.drop pos)
  it : wr.heap[w.heap.size]? = some (.stringIter s pos)
  bel : Below w.heap.size w wr

theorem drop_cons {l : List UInt8} {pos : Nat} (h : pos < l.length) : ∃ c, l.drop pos = c :: l.drop (pos + 1) := ⟨_, List.drop_eq_getElem_cons h⟩

set_option maxHeartbeats 1000000 in
set_option maxRecDepth 100000 in
theorem letters_any (s : ByteArray) (w : World) (hm : s.size ≤ 1000000) :
    Calls Tryz.prog 159 #[.string s] w fun e w' => e = .returned (.int .i64 (lowN s.data.toList)) ∧ Below w.heap.size w w' := by
  obtain ⟨l, hl⟩ : ∃ l, s.data.toList = l := ⟨_, rfl⟩
  have hsz : s.size = l.length := by rw [← hl]; simp
  rw [hl]
  have HSL := Lib.hid hl
  have HSZ := Lib.hid hsz
  clear hl hsz
  go_enter Tryz.func159, Tryz.ntmps159
  go_wp2_with fail
  go_loopw [] (fun wr => ∃ (pos : Nat), LowAt w wr s l pos) (fun wr => s.size - wr.iterPos w.heap.size)
  case atStart => exact ⟨0, by omega, by simp, World.iter_heap w s 0, (Below.refl _ w).alloc (Nat.le_refl _) _⟩
  case round =>
    obtain ⟨pos, HR⟩ := hrel
    have hit := HR.it
    have hle := HR.le
    by_cases hp : pos < l.length
    · have hps : pos < s.size := by rw [HSZ.out]; exact hp
      obtain ⟨r, d, hd⟩ : ∃ r d, dec (l.drop pos) = (r, d) := ⟨_, _, rfl⟩
      have hdec : Utf8.decode s pos = (r, d) := by rw [decode_dec, HSL.out, hd]
      have hnx : ∀ ty, (Instr.next (.pointer (some ⟨w.heap.size, 0, none⟩)) true ty).run Tryz.prog wr = .ok (.tuple #[.bool true, .int .i64 pos, .int .i32 r]) (wr.iterAt w.heap.size s (pos + d)) := fun ty => by
        rw [Lib.run_next_any_at wr w.heap.size s pos ty hit hps, hdec]
      have hit2 := Lib.iterAt_heap wr w.heap.size s pos (pos + d) hit
      have hbw2 := Lib.below_iterAt HR.bel (k := w.heap.size) (Nat.le_refl _) s (pos + d)
      have HIT2 := Lib.hid hit2
      obtain ⟨c, hc⟩ := drop_cons hp
      have HC := Lib.hid hc
      rw [hc] at hd
      by_cases hin : 97 ≤ r ∧ r ≤ 122
      · obtain ⟨h1, h2⟩ := hin
        have ha : c.toNat < 128 := dec_asc' (t := l.drop (pos + 1)) (by rw [hd]; simp only; omega)
        rw [dec_asc ha] at hd
        injection hd with e1 e2
        have HW := Lib.hid (lowN_yes (c := c) (t := l.drop (pos + 1)) (by omega) (by omega))
        have HE := Lib.hid e2
        clear hdec hit hit2 hc e1 e2
        go_wp2_with fail
        go_roundw
        case rel =>
          refine ⟨pos + d, by have := HE.out; omega, ?_, HIT2.out, hbw2⟩
          rw [HR.is, HC.out, HW.out, ← HE.out]
          omega
        case measure => simp only [World.iterPos, HIT2.out, HR.it]; have := HSZ.out; have := HE.out; omega
      · have hno : c.toNat < 97 ∨ 122 < c.toNat := by
          by_cases ha : c.toNat < 128
          · rw [dec_asc ha] at hd
            injection hd with e1 e2
            omega
          · omega
        have HF := Lib.hid (show lowN l = pos by rw [HR.is, HC.out, lowN_no hno]; rfl)
        clear hdec hit hit2 hc hd
        rcases (show r < 97 ∨ (97 ≤ r ∧ 122 < r) by omega) with h | ⟨h, h'⟩
        all_goals
          clear hin
          go_wp2_with fail
          go_ret
          exact ⟨by rw [HF.out]; rfl, hbw2⟩
    · have hps : ¬ pos < s.size := by rw [HSZ.out]; exact hp
      have hnx : ∀ ty, (Instr.next (.pointer (some ⟨w.heap.size, 0, none⟩)) true ty).run Tryz.prog wr = _ := fun ty => Lib.run_next_end_at wr w.heap.size s pos ty hit hps
      have hf : lowN l = s.size := by rw [HR.is, List.drop_of_length_le (by omega), lowN_nil, HSZ.out]; omega
      have HF := Lib.hid hf
      clear hf hit hps
      go_wp2_with fail
      go_ret
      exact ⟨by rw [HF.out]; rfl, HR.bel⟩

/-! ### digits -/
theorem pow_step {a b d : Int} {n : Nat} (ha : a < b ^ n) (hb : 0 < b) (hd : d < b) : a * b + d < b ^ (n + 1) := by
  have h1 : (a + 1) * b ≤ b ^ n * b := Int.mul_le_mul_of_nonneg_right (by omega) (by omega)
  rw [Int.add_mul] at h1
  rw [Int.pow_succ]
  omega
theorem pow_le {b : Int} {n m : Nat} (hb : 1 ≤ b) (h : n ≤ m) : b ^ n ≤ b ^ m := by
  obtain ⟨k, rfl⟩ := Nat.exists_eq_add_of_le h
  clear h
  induction k with
  | zero => exact Int.le_refl _
  | succ k ih =>
    rw [← Nat.add_assoc, Int.pow_succ]
    have h0 : 0 ≤ b ^ (n + k) := Int.le_of_lt (Int.pow_pos (by omega))
    have := Int.mul_le_mul_of_nonneg_left hb h0
    omega

structure DigAt (w wr : World) (s : ByteArray) (l : List UInt8) (m : Nat) (b a : Int) (n : Nat) : Prop where
  le : n ≤ l.length
  lm : n ≤ m
  is : digF m b 0 l = ((digF (m - n) b a (l.drop n)).1, (digF (m - n) b a (l.drop n)).2 + n)
  lo : 0 ≤ a
  hi : a < b ^ n
  it : wr.heap[w.heap.size]? = some (.stringIter s n)
  bel : Below w.heap.size w wr

theorem digF_zero (b a : Int) (l : List UInt8) : digF 0 b a l = (a, 0) := by cases l <;> rfl
theorem digF_nil (m : Nat) (b a : Int) : digF m b a [] = (a, 0) := by cases m <;> rfl
theorem digF_no {m : Nat} {b a : Int} {c : UInt8} {t : List UInt8} (h : digR c.toNat < 0 ∨ b ≤ digR c.toNat) : digF m b a (c :: t) = (a, 0) := by
  cases m with
  | zero => rfl
  | succ m => unfold digF; rw [if_pos h]
theorem digF_yes {m : Nat} {b a : Int} {c : UInt8} {t : List UInt8} (h : 0 ≤ digR c.toNat) (h' : digR c.toNat < b) :
    digF (m + 1) b a (c :: t) = ((digF m b (a * b + digR c.toNat) t).1, (digF m b (a * b + digR c.toNat) t).2 + 1) := by
  conv => lhs; unfold digF
  rw [if_neg (by omega)]

theorem ret_pair {a a' n n' : Int} (h : a = a') (h' : n = n') : Ending.returned (.tuple #[.int .i32 a, .int .i64 n]) = .returned (.tuple #[.int .i32 a', .int .i64 n']) := by rw [h, h']

set_option maxHeartbeats 2000000 in
set_option maxRecDepth 100000 in
theorem digits_any (s : ByteArray) (b : Int) (m : Nat) (w : World) (hm : s.size ≤ 1000000) (hb : 2 ≤ b) (hb' : b ≤ 16) (hp : b ^ m ≤ 100000000) (hm7 : m ≤ 7) :
    Calls Tryz.prog 165 #[.string s, .int .i32 b, .int .i64 m] w fun e w' => e = .returned (.tuple #[.int .i32 (digF m b 0 s.data.toList).1, .int .i64 (digF m b 0 s.data.toList).2]) ∧ Below w.heap.size w w' := by
  obtain ⟨l, hl⟩ : ∃ l, s.data.toList = l := ⟨_, rfl⟩
  have hsz : s.size = l.length := by rw [← hl]; simp
  rw [hl]
  have HSL := Lib.hid hl
  have HSZ := Lib.hid hsz
  clear hl hsz
  go_enter Tryz.func165, Tryz.ntmps165
  go_wp2_with fail
  go_loopw [8, 9] (fun x y wr => ∃ (a : Int) (n : Nat), x = .int .i32 a ∧ y = .int .i64 n ∧ DigAt w wr s l m b a n) (fun _ _ wr => s.size - wr.iterPos w.heap.size)
  case atStart => exact ⟨0, 0, rfl, rfl, by omega, by omega, by simp, by omega, by simp, World.iter_heap w s 0, (Below.refl _ w).alloc (Nat.le_refl _) _⟩
  case round =>
    obtain ⟨a, n, rfl, rfl, HR⟩ := hrel
    have hit := HR.it
    have hle := HR.le
    have hlm := HR.lm
    have hlo := HR.lo
    by_cases hlt : n < l.length
    · have hps : n < s.size := by rw [HSZ.out]; exact hlt
      obtain ⟨r, d, hd⟩ : ∃ r d, dec (l.drop n) = (r, d) := ⟨_, _, rfl⟩
      have hdec : Utf8.decode s n = (r, d) := by rw [decode_dec, HSL.out, hd]
      have hnx : ∀ ty, (Instr.next (.pointer (some ⟨w.heap.size, 0, none⟩)) true ty).run Tryz.prog wr = .ok (.tuple #[.bool true, .int .i64 n, .int .i32 r]) (wr.iterAt w.heap.size s (n + d)) := fun ty => by
        rw [Lib.run_next_any_at wr w.heap.size s n ty hit hps, hdec]
      have hok := dec_ok (l.drop n)
      rw [hd] at hok
      have hr1 : (r : Int) ≤ 1114111 := by unfold okR at hok; simp only at hok; omega
      have hit2 := Lib.iterAt_heap wr w.heap.size s n (n + d) hit
      have hbw2 := Lib.below_iterAt HR.bel (k := w.heap.size) (Nat.le_refl _) s (n + d)
      have HIT2 := Lib.hid hit2
      obtain ⟨c, hc⟩ := drop_cons hlt
      have HC := Lib.hid hc
      have hdg : digR r = digR c.toNat ∧ (0 ≤ digR r → d = 1) := by
        rw [hc] at hd
        by_cases ha : c.toNat < 128
        · rw [dec_asc ha] at hd
          injection hd with e1 e2
          exact ⟨by rw [e1], fun _ => e2.symm⟩
        · have hr : 128 ≤ r := by
            rcases Nat.lt_or_ge r 128 with h | h
            · exact absurd (dec_asc' (c := c) (t := l.drop (n + 1)) (by rw [hd]; exact h)) ha
            · exact h
          have h1 : ∀ q : Int, 128 ≤ q → digR q = -1 := by
            intro q hq
            unfold digR
            rw [if_neg (by omega), if_neg (by omega), if_neg (by omega)]
          have hq1 := h1 (r : Int) (by omega)
          have hq2 := h1 (c.toNat : Int) (by omega)
          rw [hq1, hq2]
          exact ⟨rfl, fun h => absurd h (by omega)⟩
      have hbd := digR_bd (r : Int)
      have hstep := pow_step (a := a) (b := b) (d := digR r) (n := n) HR.hi (by omega)
      obtain ⟨q, hq⟩ : ∃ q, digR (r : Int) = q := ⟨_, rfl⟩
      have HQ := Lib.hid hq
      have hdg1 := hdg.1
      have hdg2 := hdg.2
      rw [hq] at hbd hstep hdg1 hdg2
      have HD := Lib.hid (And.intro hdg1 hdg2)
      clear hdec hit hit2 hc hd hok hdg hdg1 hdg2 hq
      by_cases hnm : n = m
      · have HF := Lib.hid (show digF m b 0 l = (a, n) by rw [HR.is, hnm, Nat.sub_self, digF_zero]; simp)
        subst hnm
        go_wp2_with fail
        refine (digit_any _ _ (by omega) (by omega)).mono ?_
        rw [HQ.out]
        rintro e w2 ⟨rfl, rfl⟩
        go_wp2_with fail
        go_ret2
        exact ⟨by rw [HF.out]; rfl, hbw2⟩
      have BN : ((n : Int) == (m : Int)) = false := by simp; omega
      by_cases hq0 : q < 0
      · have HF := Lib.hid (show digF m b 0 l = (a, n) by rw [HR.is, HC.out, digF_no (Or.inl (by have := HD.out.1; omega))]; simp)
        clear hstep hnm
        go_wp2_with fail
        refine (digit_any _ _ (by omega) (by omega)).mono ?_
        rw [HQ.out]
        rintro e w2 ⟨rfl, rfl⟩
        go_wp2_with fail
        go_ret2
        exact ⟨by rw [HF.out]; rfl, hbw2⟩
      by_cases hqb : b ≤ q
      · have HF := Lib.hid (show digF m b 0 l = (a, n) by rw [HR.is, HC.out, digF_no (Or.inr (by have := HD.out.1; omega))]; simp)
        clear hstep hnm
        go_wp2_with fail
        refine (digit_any _ _ (by omega) (by omega)).mono ?_
        rw [HQ.out]
        rintro e w2 ⟨rfl, rfl⟩
        go_wp2_with fail
        go_ret2
        exact ⟨by rw [HF.out]; rfl, hbw2⟩
      · have hs1 := hstep (by omega)
        have hs2 : b ^ (n + 1) ≤ 100000000 := Int.le_trans (pow_le (by omega) (by omega)) hp
        have hs3 : 0 ≤ a * b := Int.mul_nonneg hlo (by omega)
        have hs4 : a * b + q ≤ 100000000 := by omega
        have hs5 : a * b ≤ 100000000 := by omega
        have HS1 := Lib.hid hs1
        have HY := Lib.hid (show digF m b 0 l = ((digF (m - (n + 1)) b (a * b + q) (l.drop (n + 1))).1, (digF (m - (n + 1)) b (a * b + q) (l.drop (n + 1))).2 + (n + 1)) by
          have e1 := HD.out.1
          rw [HR.is, HC.out, show m - n = (m - (n + 1)) + 1 by omega, digF_yes (by omega) (by omega), ← e1]
          simp only [Prod.mk.injEq, true_and]
          omega)
        have hnm' : n < m := by omega
        have h1 : d = 1 := HD.out.2 (by omega)
        subst h1
        clear hstep hnm hs1 hs2
        go_wp2_with fail
        refine (digit_any _ _ (by omega) (by omega)).mono ?_
        rw [HQ.out]
        rintro e w2 ⟨rfl, rfl⟩
        go_wp2_with fail
        go_roundw
        case rel => exact ⟨a * b + q, n + 1, rfl, by go_num, by omega, by omega, HY.out, by omega, HS1.out, HIT2.out, hbw2⟩
        case measure => simp only [World.iterPos, HIT2.out, HR.it]; have := HSZ.out; omega
    · have hps : ¬ n < s.size := by rw [HSZ.out]; exact hlt
      have hnx : ∀ ty, (Instr.next (.pointer (some ⟨w.heap.size, 0, none⟩)) true ty).run Tryz.prog wr = _ := fun ty => Lib.run_next_end_at wr w.heap.size s n ty hit hps
      have HF := Lib.hid (show digF m b 0 l = (a, n) by rw [HR.is, List.drop_of_length_le (by omega), digF_nil]; simp)
      clear hit hps
      go_wp2_with fail
      go_ret2
      exact ⟨by rw [HF.out]; rfl, HR.bel⟩

end Go.Proofs.YthmnnalamaponaaGreat

/- Part Map. -/
namespace Go.Proofs.YthmnnalamaponaaGreat
open Go.RowKit Go.Maps
set_option linter.unusedVariables false

theorem strKeyed : Keyed Tryz.prog 9 := string_keyed Tryz.underlying9
theorem zero32 (w : World) : (zeroValue 21).run Tryz.prog w = .ok (.int .i32 0) w := by kernel_rfl

/-- What a datum says of texts. -/
def View (D : DataW Unit) (f : List UInt8 → Option Int) : Prop :=
  IsMap D ∧ ∀ l, Maps.has D (.string l) = (f l).isSome ∧ ∀ z, D.atKey (.string l) z = match f l with | some r => .lit (.int .i32 r) | none => z

theorem View.empty : View (.map []) (fun _ => none) := ⟨isMap_empty, fun l => ⟨rfl, fun z => rfl⟩⟩

theorem View.put {D : DataW Unit} {f : List UInt8 → Option Int} (h : View D f) (k : List UInt8) (v : Int) : View (D.put (.string k) (.lit (.int .i32 v))) (updF f k v) := by
  refine ⟨h.1.put _ _, fun l => ?_⟩
  unfold updF
  by_cases e : l = k
  · subst e
    rw [if_pos rfl]
    exact ⟨has_put_same h.1 (show WideAt.IsKeyLit (.string l) from trivial) _, fun z => atKey_put_same h.1 (show WideAt.IsKeyLit (.string l) from trivial) _ z⟩
  · rw [if_neg e]
    have hne : (Lit.string l) ≠ .string k := by intro h; injection h; exact e ‹_›
    refine ⟨?_, fun z => ?_⟩
    · rw [has_put_other hne]; exact (h.2 l).1
    · rw [atKey_put_other hne]; exact (h.2 l).2 z

/-- Block b is a map of at most n entries that holds just what f tells. -/
def Names (w : World) (b n : Nat) (f : List UInt8 → Option Int) : Prop := ∃ D : DataW Unit, w.ownsMap Tryz.prog 9 (plainElem Tryz.prog 21) b n D ∧ View D f

theorem Names.below {w w' : World} {b n : Nat} {f : List UInt8 → Option Int} (h : Names w b n f) (hb : Below w.heap.size w w') : Names w' b n f := by
  obtain ⟨D, ⟨es, clock, hh, F, hs, hD⟩, hv⟩ := h
  have hlt := (Array.getElem?_eq_some_iff.1 hh).1
  exact ⟨D, ⟨es, clock, (hb.block b hlt).trans hh, F, hs, hD⟩, hv⟩

theorem Names.lt {w : World} {b n : Nat} {f : List UInt8 → Option Int} (h : Names w b n f) : b < w.heap.size := by
  obtain ⟨D, h, _⟩ := h
  exact h.lt

theorem Names.made (w : World) : Names (w.alloc (.map #[] 0)) w.heap.size 0 (fun _ => none) := ⟨_, World.ownsMap_made _ _ _ _, View.empty⟩

/-- An entry of a map's literal. -/
theorem wpList_names {w0 w : World} {ops : Array Oper} {rest : List Oper} {o : Oper} {a : Act} {Q : Exit → Act → World → Prop}
    (hg : o.guard = none) (m x v : Operand) (hop : o.op = Op.insert 135 m x v)
    (b n : Nat) (f : List UInt8 → Option Int) (h : Names w b n f) (hb : Below w0.heap.size w0 w) (hbb : w0.heap.size ≤ b)
    (hm : a.eval m = .map (some b)) (hn : n < 1000) (k : ByteArray) (r : Int) (hx : a.eval x = .string k) (hv : a.eval v = .int .i32 r) (hk : k.size ≤ maxLen) (hr : (Lit.int .i32 r).wf = true)
    (hK : ∀ w', Names w' b (n + 1) (updF f k.data.toList r) → Below w0.heap.size w0 w' → wpList Tryz.prog ops Q rest (a.put o.dst undef) w') :
    wpList Tryz.prog ops Q (o :: rest) a w := by
  refine wpList_plain hg fun K' hK' => ?_
  obtain ⟨D, hown, hvw⟩ := h
  obtain ⟨w', hrun, r1, r2⟩ := hown.update strKeyed Tryz.underlying135 (by unfold maxLen; omega) (Go.WideMaps.keyOf_string_mk Tryz.underlying9 hk) (plainElem_int Tryz.underlying21 hr)
  unfold Oper.wp
  simp [execOp, hop, hm, hx, hv, hrun, Result.andThen]
  exact hK' _ _ (hK w' ⟨_, r1, hvw.put _ _⟩ (hb.grown r2 hb.size (fun g hg => by cases hg; exact hbb)))

set_option maxRecDepth 100000 in
/-- 'r, is := names[s]'. -/
theorem Names.look {w : World} {b n : Nat} {f : List UInt8 → Option Int} (h : Names w b n f) (k : ByteArray) (hk : k.size ≤ maxLen) :
    (Instr.lookup 135 (.map (some b)) (.string k) true).run Tryz.prog w = .ok (.tuple #[.int .i32 ((f k.data.toList).getD 0), .bool (f k.data.toList).isSome]) w := by
  obtain ⟨D, hown, hv⟩ := h
  obtain ⟨v, ps, hrun, hv2⟩ := hown.look_ok strKeyed Tryz.underlying135 (zero32 w) (plainElem_int (q := .i32) Tryz.underlying21 (by decide)) (Go.WideMaps.keyOf_string_mk Tryz.underlying9 hk)
  obtain ⟨c, rfl, hc, hwc⟩ := plainElem_int_inv Tryz.underlying21 hv2
  have h1 := (hv.2 k.data.toList).1
  have h2 := (hv.2 k.data.toList).2 (.lit (.int .i32 0))
  rw [hrun, h1]
  have h3 := congrArg Prod.fst hc
  simp only at h3
  rw [h3] at h2
  cases hf : f k.data.toList with
  | none => rw [hf] at h2; injection h2 with h2; injection h2 with _ h2; rw [h2]; rfl
  | some r => rw [hf] at h2; injection h2 with h2; injection h2 with _ h2; rw [h2]; rfl

end Go.Proofs.YthmnnalamaponaaGreat

/- Part Names. -/
namespace Go.Proofs.YthmnnalamaponaaGreat
open Go.RowKit Go.Maps
set_option linter.unusedVariables false

set_option maxHeartbeats 2000000 in
set_option maxRecDepth 100000 in
theorem names_any (w : World) :
    Calls Tryz.prog 133 #[] w fun e w' => ∃ b, e = .returned (.map (some b)) ∧ Names w' b 15 nameB ∧ Below w.heap.size w w' := by
  have hmm := @run_makeMap Tryz.prog
  go_enter Tryz.func133, Tryz.ntmps133
  have h0 : Names (w.alloc (.map #[] 0)) w.heap.size 0 (fun _ => none) := Names.made w
  have b0 : Below w.heap.size w (w.alloc (.map #[] 0)) := (Below.refl _ _).alloc (Nat.le_refl _) _
  go_wp2_with (refine wpList_names (w0 := w) rfl _ _ _ rfl w.heap.size _ _ (by assumption) (by assumption) (Nat.le_refl _) rfl (by omega) _ _ rfl rfl (by decide) (by decide) ?_; intro wn hn hbn)
  go_ret
  exact ⟨_, rfl, hn, hbn⟩

end Go.Proofs.YthmnnalamaponaaGreat

/- Part RefO. -/
namespace Go.Proofs.YthmnnalamaponaaGreat
open Go.RowKit
set_option linter.unusedVariables false

theorem digF_bd : ∀ (m : Nat) (b a : Int) (l : List UInt8) (n : Nat), 2 ≤ b → 0 ≤ a → a < b ^ n → 0 ≤ (digF m b a l).1 ∧ (digF m b a l).1 < b ^ (n + (digF m b a l).2)
  | 0, b, a, l, n, _, h0, h1 => by rw [digF_zero]; exact ⟨h0, h1⟩
  | m + 1, b, a, [], n, _, h0, h1 => by rw [digF_nil]; exact ⟨h0, h1⟩
  | m + 1, b, a, c :: t, n, hb, h0, h1 => by
    by_cases h : digR c.toNat < 0 ∨ b ≤ digR c.toNat
    · rw [digF_no h]; exact ⟨h0, h1⟩
    · rw [digF_yes (by omega) (by omega)]
      have hs := pow_step (d := digR c.toNat) h1 (by omega) (by omega)
      have h3 : 0 ≤ a * b := Int.mul_nonneg h0 (by omega)
      have ih := digF_bd m b (a * b + digR c.toNat) t (n + 1) hb (by omega) hs
      refine ⟨ih.1, ?_⟩
      have := ih.2
      rw [Nat.add_assoc, Nat.add_comm 1] at this
      exact this

theorem numB_zero {l : List UInt8} {k : Nat} {b : Int} {m : Nat} (h : (digF m b 0 (l.drop k)).2 = 0) : numB l k b m = (0, 0) := by unfold numB; rw [if_pos h]
theorem numB_some {l : List UInt8} {k : Nat} {b : Int} {m : Nat} (h : (digF m b 0 (l.drop k)).2 ≠ 0) : numB l k b m = (charB (digF m b 0 (l.drop k)).1, k + (digF m b 0 (l.drop k)).2) := by unfold numB; rw [if_neg h]

set_option maxHeartbeats 1000000 in
theorem numbered_any (s : ByteArray) (k : Nat) (b : Int) (m : Nat) (w : World) (hm : s.size ≤ 1000000) (hk : k ≤ s.size) (hk2 : k ≤ 100) (hb : 2 ≤ b) (hb' : b ≤ 16) (hp : b ^ m ≤ 100000000) (hm7 : m ≤ 7) :
    Calls Tryz.prog 158 #[.string s, .int .i64 k, .int .i32 b, .int .i64 m] w fun e w' => e = .returned (.tuple #[.int .i32 (numB s.data.toList k b m).1, .int .i64 (numB s.data.toList k b m).2]) ∧ Below w.heap.size w w' := by
  have hlen := digF_len m b 0 (s.data.toList.drop k)
  have hlo := digF_bd m b 0 (s.data.toList.drop k) 0 hb (Int.le_refl _) (by simp)
  have h2 := pow_le (b := b) (n := 0 + (digF m b 0 (s.data.toList.drop k)).2) (m := m) (by omega) (by omega)
  have hn0 := numB_zero (l := s.data.toList) (k := k) (b := b) (m := m)
  have hn1 := numB_some (l := s.data.toList) (k := k) (b := b) (m := m)
  have hk3 : (k : Int) ≤ (s.size : Int) := by omega
  obtain ⟨⟨a, n⟩, hD⟩ : ∃ p, digF m b 0 (s.data.toList.drop k) = p := ⟨_, rfl⟩
  rw [hD] at hlen hlo h2 hn0 hn1
  simp only at hlen hlo h2 hn0 hn1
  have HD := Lib.hid hD
  have H0 := Lib.hid hn0
  have H1 := Lib.hid hn1
  clear hD hn0 hn1
  by_cases h0 : n = 0
  · have HF := Lib.hid (H0.out h0)
    subst h0
    go_enter Tryz.func158, Tryz.ntmps158
    go_wp2_with fail
    refine (digits_any (s.extract k s.size) b m _ (by rw [ByteArray.size_extract]; omega) hb hb' hp hm7).mono ?_
    rw [drop_extract, HD.out]
    rintro e w1 ⟨rfl, hb1⟩
    go_wp2_with fail
    go_ret2
    exact ⟨by rw [HF.out]; rfl, hb1⟩
  · have B0 : ((n : Int) == 0) = false := by simp; omega
    have HF := Lib.hid (H1.out h0)
    clear h0
    go_enter Tryz.func158, Tryz.ntmps158
    go_wp2_with fail
    refine (digits_any (s.extract k s.size) b m _ (by rw [ByteArray.size_extract]; omega) hb hb' hp hm7).mono ?_
    rw [drop_extract, HD.out]
    rintro e w1 ⟨rfl, hb1⟩
    go_wp2_with fail
    refine (character_any a _ (by omega) (by omega)).mono ?_
    rintro e w2 ⟨rfl, rfl⟩
    go_wp2_with fail
    go_ret2
    exact ⟨by rw [HF.out]; exact ret_pair rfl (by simp), hb1⟩

theorem toldB_x {l : List UInt8} (h : Lib.hasPrefix l [35, 120] = true) : toldB l = numB l 2 16 6 := by unfold toldB; rw [if_pos h]
theorem toldB_X {l : List UInt8} (h0 : Lib.hasPrefix l [35, 120] = false) (h : Lib.hasPrefix l [35, 88] = true) : toldB l = numB l 2 16 6 := by unfold toldB; rw [if_neg (by rw [h0]; simp), if_pos h]
theorem toldB_d {l : List UInt8} (h0 : Lib.hasPrefix l [35, 120] = false) (h1 : Lib.hasPrefix l [35, 88] = false) (h : Lib.hasPrefix l [35] = true) : toldB l = numB l 1 10 7 := by
  unfold toldB; rw [if_neg (by rw [h0]; simp), if_neg (by rw [h1]; simp), if_pos h]
theorem toldB_n {l : List UInt8} (h0 : Lib.hasPrefix l [35, 120] = false) (h1 : Lib.hasPrefix l [35, 88] = false) (h : Lib.hasPrefix l [35] = false) :
    toldB l = match nameB (l.take (lowN l)) with | some r => (r, lowN l) | none => (0, 0) := by
  unfold toldB; rw [if_neg (by rw [h0]; simp), if_neg (by rw [h1]; simp), if_neg (by rw [h]; simp)]
  cases nameB (l.take (lowN l)) <;> rfl

theorem prefix_q (s p : ByteArray) (q : Bool) (w : World) (h : Lib.hasPrefix s.data.toList p.data.toList = q) :
    Calls Tryz.prog 77 #[.string s, .string p] w fun e w' => e = .returned (.bool q) ∧ w = w' := by
  refine (Tryz.strings_HasPrefix s p w).mono ?_
  rintro e w1 ⟨rfl, rfl⟩
  exact ⟨by rw [h], rfl⟩

theorem ret_pairN {a a' : Int} {n n' : Nat} (h : (a', n') = (a, n)) : Ending.returned (.tuple #[.int .i32 a, .int .i64 n]) = .returned (.tuple #[.int .i32 (a', n').1, .int .i64 ((a', n').2 : Nat)]) := by
  injection h with h1 h2
  rw [h1, h2]

set_option maxHeartbeats 2000000 in
set_option maxRecDepth 100000 in
theorem told_any (s : ByteArray) (B : Nat) (w : World) (hm : s.size ≤ 1000000) (hN : Names w B 15 nameB) :
    Calls Tryz.prog 147 #[.string s, .map (some B)] w fun e w' => e = .returned (.tuple #[.int .i32 (toldB s.data.toList).1, .int .i64 (toldB s.data.toList).2]) ∧ Below w.heap.size w w' := by
  obtain ⟨l, hl⟩ : ∃ l, s.data.toList = l := ⟨_, rfl⟩
  have hsz : s.size = l.length := by rw [← hl]; simp
  have HSL := Lib.hid hl
  have HSZ := Lib.hid hsz
  have n1 := numbered_any s 2 16 6 w hm
  have n2 := numbered_any s 1 10 7 w hm
  have nl := letters_any s w hm
  rw [hl] at n1 n2 nl ⊢
  have N1 := Lib.hid n1
  have N2 := Lib.hid n2
  have NL := Lib.hid nl
  clear hl hsz n1 n2 nl
  obtain ⟨q1, h1⟩ : ∃ q, Lib.hasPrefix l [35, 120] = q := ⟨_, rfl⟩
  obtain ⟨q2, h2⟩ : ∃ q, Lib.hasPrefix l [35, 88] = q := ⟨_, rfl⟩
  obtain ⟨q3, h3⟩ : ∃ q, Lib.hasPrefix l [35] = q := ⟨_, rfl⟩
  have P1 := Lib.hid (fun w => prefix_q s ⟨#[35, 120]⟩ q1 w (by rw [HSL.out]; exact h1))
  have P2 := Lib.hid (fun w => prefix_q s ⟨#[35, 88]⟩ q2 w (by rw [HSL.out]; exact h2))
  have P3 := Lib.hid (fun w => prefix_q s ⟨#[35]⟩ q3 w (by rw [HSL.out]; exact h3))
  have HNm := Lib.hid hN
  clear hN
  cases q1 with
  | true =>
    have hk : 2 ≤ s.size := by obtain ⟨t, ht⟩ := pre_two h1; rw [HSZ.out, ht]; simp
    have HF := Lib.hid (toldB_x h1)
    clear h1 h2 h3
    go_enter Tryz.func147, Tryz.ntmps147
    go_wp2_with fail
    refine (P1.out _).mono ?_
    rintro e w1 ⟨rfl, rfl⟩
    go_wp2_with fail
    refine (N1.out hk (by omega) (by omega) (by omega) (by decide) (by omega)).mono ?_
    rintro e w2 ⟨rfl, hb2⟩
    go_wp2_with fail
    go_ret2
    exact ⟨by rw [HF.out]; rfl, hb2⟩
  | false =>
    cases q2 with
    | true =>
      have hk : 2 ≤ s.size := by obtain ⟨t, ht⟩ := pre_two h2; rw [HSZ.out, ht]; simp
      have HF := Lib.hid (toldB_X h1 h2)
      clear h1 h2 h3
      go_enter Tryz.func147, Tryz.ntmps147
      go_wp2_with fail
      refine (P1.out _).mono ?_
      rintro e w1 ⟨rfl, rfl⟩
      go_wp2_with fail
      refine (P2.out _).mono ?_
      rintro e w1 ⟨rfl, rfl⟩
      go_wp2_with fail
      refine (N1.out hk (by omega) (by omega) (by omega) (by decide) (by omega)).mono ?_
      rintro e w2 ⟨rfl, hb2⟩
      go_wp2_with fail
      go_ret2
      exact ⟨by rw [HF.out]; rfl, hb2⟩
    | false =>
      cases q3 with
      | true =>
        have hk : 1 ≤ s.size := by obtain ⟨t, ht⟩ := pre_one h3; rw [HSZ.out, ht]; simp
        have HF := Lib.hid (toldB_d h1 h2 h3)
        clear h1 h2 h3
        go_enter Tryz.func147, Tryz.ntmps147
        go_wp2_with fail
        refine (P1.out _).mono ?_
        rintro e w1 ⟨rfl, rfl⟩
        go_wp2_with fail
        refine (P2.out _).mono ?_
        rintro e w1 ⟨rfl, rfl⟩
        go_wp2_with fail
        refine (P3.out _).mono ?_
        rintro e w1 ⟨rfl, rfl⟩
        go_wp2_with fail
        refine (N2.out hk (by omega) (by omega) (by omega) (by decide) (by omega)).mono ?_
        rintro e w2 ⟨rfl, hb2⟩
        go_wp2_with fail
        go_ret2
        exact ⟨by rw [HF.out]; rfl, hb2⟩
      | false =>
        have hF := toldB_n h1 h2 h3
        have hle := lowN_le l
        have htx : (s.extract 0 (lowN l)).data.toList = l.take (lowN l) := by rw [take_extract, HSL.out]
        have htz : (s.extract 0 (lowN l)).size ≤ maxLen := by rw [ByteArray.size_extract]; unfold maxLen; omega
        have hlk : ∀ w2 : World, Below w.heap.size w w2 → (Instr.lookup 135 (.map (some B)) (.string (s.extract 0 (lowN l))) true).run Tryz.prog w2 = .ok (.tuple #[.int .i32 ((nameB (l.take (lowN l))).getD 0), .bool (nameB (l.take (lowN l))).isSome]) w2 := by
          intro w2 hb
          have := (HNm.out.below hb).look (s.extract 0 (lowN l)) htz
          rw [htx] at this
          exact this
        obtain ⟨n, hn⟩ : ∃ n, lowN l = n := ⟨_, rfl⟩
        obtain ⟨o, ho⟩ : ∃ o, nameB (l.take (lowN l)) = o := ⟨_, rfl⟩
        rw [ho] at hlk hF
        rw [hn] at hlk hle hF
        have hns : (n : Int) ≤ (s.size : Int) := by have := HSZ.out; omega
        have HLK := Lib.hid hlk
        have HN2 := Lib.hid hn
        clear h1 h2 h3 hlk hn htx htz ho
        cases o with
        | none =>
          have HF := Lib.hid hF
          clear hF
          go_enter Tryz.func147, Tryz.ntmps147
          go_wp2_with fail
          refine (P1.out _).mono ?_
          rintro e w1 ⟨rfl, rfl⟩
          go_wp2_with fail
          refine (P2.out _).mono ?_
          rintro e w1 ⟨rfl, rfl⟩
          go_wp2_with fail
          refine (P3.out _).mono ?_
          rintro e w1 ⟨rfl, rfl⟩
          go_wp2_with fail
          refine NL.out.mono ?_
          rw [HN2.out]
          rintro e w2 ⟨rfl, hb2⟩
          have hl2 := HLK.out w2 hb2
          simp only [Option.getD_none, Option.isSome_none] at hl2
          go_wp2_with fail
          go_ret2
          exact ⟨by rw [HF.out]; rfl, hb2⟩
        | some r =>
          have HF := Lib.hid hF
          clear hF
          go_enter Tryz.func147, Tryz.ntmps147
          go_wp2_with fail
          refine (P1.out _).mono ?_
          rintro e w1 ⟨rfl, rfl⟩
          go_wp2_with fail
          refine (P2.out _).mono ?_
          rintro e w1 ⟨rfl, rfl⟩
          go_wp2_with fail
          refine (P3.out _).mono ?_
          rintro e w1 ⟨rfl, rfl⟩
          go_wp2_with fail
          refine NL.out.mono ?_
          rw [HN2.out]
          rintro e w2 ⟨rfl, hb2⟩
          have hl2 := HLK.out w2 hb2
          simp only [Option.getD_some, Option.isSome_some] at hl2
          go_wp2_with fail
          go_ret2
          exact ⟨by rw [HF.out]; rfl, hb2⟩

theorem oneB_none {l : List UInt8} (h : Lib.hasPrefix l [38] = false) : oneB l = (0, 0) := by unfold oneB; rw [if_neg (by rw [h]; simp)]
theorem oneB_zero {l : List UInt8} (h : (toldB (l.drop 1)).2 = 0) : oneB l = (0, 0) := by
  unfold oneB
  by_cases h0 : Lib.hasPrefix l [38] = true
  · rw [if_pos h0, if_pos h]
  · rw [if_neg h0]
theorem oneB_no {l : List UInt8} (h : Lib.hasPrefix (l.drop (1 + (toldB (l.drop 1)).2)) [59] = false) : oneB l = (0, 0) := by
  by_cases h1 : (toldB (l.drop 1)).2 = 0
  · exact oneB_zero h1
  unfold oneB
  by_cases h0 : Lib.hasPrefix l [38] = true
  · rw [if_pos h0, if_neg h1, if_neg (by rw [h]; simp)]
  · rw [if_neg h0]
theorem oneB_yes {l : List UInt8} (h0 : Lib.hasPrefix l [38] = true) (h1 : (toldB (l.drop 1)).2 ≠ 0) (h : Lib.hasPrefix (l.drop (1 + (toldB (l.drop 1)).2)) [59] = true) :
    oneB l = ((toldB (l.drop 1)).1, (toldB (l.drop 1)).2 + 2) := by unfold oneB; rw [if_pos h0, if_neg h1, if_pos h]

set_option maxHeartbeats 2000000 in
set_option maxRecDepth 100000 in
theorem rone_any (s : ByteArray) (B : Nat) (w : World) (hm : s.size ≤ 1000000) (hN : Names w B 15 nameB) :
    Calls Tryz.prog 135 #[.string s, .map (some B)] w fun e w' => e = .returned (.tuple #[.int .i32 (oneB s.data.toList).1, .int .i64 (oneB s.data.toList).2]) ∧ Below w.heap.size w w' := by
  obtain ⟨l, hl⟩ : ∃ l, s.data.toList = l := ⟨_, rfl⟩
  have hsz : s.size = l.length := by rw [← hl]; simp
  have HSL := Lib.hid hl
  have HSZ := Lib.hid hsz
  have nt := told_any (s.extract 1 s.size) B w (by rw [ByteArray.size_extract]; omega) hN
  rw [drop_extract, hl] at nt
  rw [hl]
  clear hl hsz
  obtain ⟨q1, h1⟩ : ∃ q, Lib.hasPrefix l [38] = q := ⟨_, rfl⟩
  have P1 := Lib.hid (fun w => prefix_q s ⟨#[38]⟩ q1 w (by rw [HSL.out]; exact h1))
  cases q1 with
  | false =>
    have HF := Lib.hid (oneB_none h1)
    clear h1 nt
    go_enter Tryz.func135, Tryz.ntmps135
    go_wp2_with fail
    refine (P1.out _).mono ?_
    rintro e w1 ⟨rfl, rfl⟩
    go_wp2_with fail
    go_ret2
    exact ⟨by rw [HF.out]; rfl, Below.refl _ _⟩
  | true =>
    have hk : 1 ≤ s.size := by obtain ⟨t, ht⟩ := pre_one h1; rw [HSZ.out, ht]; simp
    have hk' : (1 : Int) ≤ (s.size : Int) := by omega
    have hz := oneB_zero (l := l)
    have hno := oneB_no (l := l)
    have hyes := oneB_yes (l := l) h1
    have hfact := told_fact (l.drop 1)
    obtain ⟨⟨r, n⟩, hT⟩ : ∃ p, toldB (l.drop 1) = p := ⟨_, rfl⟩
    rw [hT] at hz hno hyes nt hfact
    simp only at hz hno hyes nt hfact
    have NT := Lib.hid nt
    clear h1 nt hT hN
    by_cases h0 : n = 0
    · have HF := Lib.hid (hz h0)
      subst h0
      clear hz hno hyes hfact
      go_enter Tryz.func135, Tryz.ntmps135
      go_wp2_with fail
      refine (P1.out _).mono ?_
      rintro e w1 ⟨rfl, rfl⟩
      go_wp2_with fail
      refine NT.out.mono ?_
      rintro e w2 ⟨rfl, hb2⟩
      go_wp2_with fail
      go_ret2
      exact ⟨by rw [HF.out]; rfl, hb2⟩
    · have hf := (hfact h0).2.2.2.1
      rw [List.length_drop] at hf
      have hn1 : (1 : Int) + (n : Int) ≤ (s.size : Int) := by have := HSZ.out; omega
      have hn2 : (n : Int) ≤ 1000000 := by omega
      have BN : ((n : Int) == 0) = false := by simp; omega
      obtain ⟨q2, h2⟩ : ∃ q, Lib.hasPrefix (l.drop (1 + n)) [59] = q := ⟨_, rfl⟩
      have P2 := Lib.hid (fun w => prefix_q (s.extract (1 + n) s.size) ⟨#[59]⟩ q2 w (by rw [drop_extract, HSL.out]; exact h2))
      cases q2 with
      | false =>
        have HF := Lib.hid (hno h2)
        clear h2 h0 hz hno hyes hfact hf
        go_enter Tryz.func135, Tryz.ntmps135
        go_wp2_with fail
        refine (P1.out _).mono ?_
        rintro e w1 ⟨rfl, rfl⟩
        go_wp2_with fail
        refine NT.out.mono ?_
        rintro e w2 ⟨rfl, hb2⟩
        go_wp2_with fail
        refine (P2.out _).mono ?_
        rintro e w3 ⟨rfl, rfl⟩
        go_wp2_with fail
        go_ret2
        exact ⟨by rw [HF.out]; rfl, hb2⟩
      | true =>
        have HF := Lib.hid (hyes h0 h2)
        clear h2 h0 hz hno hyes hfact hf
        go_enter Tryz.func135, Tryz.ntmps135
        go_wp2_with fail
        refine (P1.out _).mono ?_
        rintro e w1 ⟨rfl, rfl⟩
        go_wp2_with fail
        refine NT.out.mono ?_
        rintro e w2 ⟨rfl, hb2⟩
        go_wp2_with fail
        refine (P2.out _).mono ?_
        rintro e w3 ⟨rfl, rfl⟩
        go_wp2_with fail
        go_ret2
        exact ⟨by rw [HF.out]; exact ret_pair rfl (by simp), hb2⟩

end Go.Proofs.YthmnnalamaponaaGreat

/- Part RefC. -/
namespace Go.Proofs.YthmnnalamaponaaGreat
open Go.RowKit
set_option linter.unusedVariables false

set_option maxHeartbeats 1000000 in
set_option maxRecDepth 100000 in
theorem index_any (s : ByteArray) (w : World) (hm : s.size ≤ 1000000) :
    Calls Tryz.prog 156 #[.string s, .string ⟨#[38]⟩] w fun e w' => e = .returned (.int .i64 (Lib.indexByte s.data.toList 38)) ∧ w = w' := by
  obtain ⟨q, hq⟩ : ∃ q, decide (s.data.toList = [38]) = q := ⟨_, rfl⟩
  have he := eq_lit s [38]
  rw [hq] at he
  have hI := Tryz.stringslite_IndexByte s 38 w
  have HI := Lib.hid hI
  clear hI
  cases q with
  | true =>
    have HF := Lib.hid (show Lib.indexByte s.data.toList 38 = 0 by rw [of_decide_eq_true hq]; rfl)
    clear hq
    go_enter Tryz.func156, Tryz.ntmps156
    go_wp2_with fail
    go_ret
    exact ⟨by rw [HF.out]; rfl, rfl⟩
  | false =>
    clear hq
    go_enter Tryz.func156, Tryz.ntmps156
    go_wp2_with fail
    refine HI.out.mono ?_
    rintro e w1 ⟨rfl, rfl⟩
    go_wp2_with fail
    go_ret
    exact ⟨rfl, rfl⟩

set_option maxHeartbeats 1000000 in
theorem contains_any (s : ByteArray) (w : World) (hm : s.size ≤ 1000000) :
    Calls Tryz.prog 132 #[.string s, .string ⟨#[38]⟩] w fun e w' => e = .returned (.bool (decide (0 ≤ Lib.indexByte s.data.toList 38))) ∧ w = w' := by
  have hI := Lib.hid (index_any s w hm)
  obtain ⟨i, hi⟩ : ∃ i, Lib.indexByte s.data.toList 38 = i := ⟨_, rfl⟩
  rw [hi] at hI ⊢
  clear hi
  go_enter Tryz.func132, Tryz.ntmps132
  go_wp2_with fail
  have h32 : Calls Tryz.prog 145 #[.string s, .string ⟨#[38]⟩] w fun e w' => e = .returned (.int .i64 i) ∧ w = w' := by
    go_enter Tryz.func145, Tryz.ntmps145
    go_wp2_with fail
    refine hI.out.mono ?_
    rintro e w1 ⟨rfl, rfl⟩
    go_wp2_with fail
    go_ret
    exact ⟨rfl, rfl⟩
  refine h32.mono ?_
  rintro e w1 ⟨rfl, rfl⟩
  clear h32
  go_wp2_with fail
  go_ret
  exact ⟨rfl, rfl⟩

set_option maxHeartbeats 1000000 in
theorem clone_any (s : ByteArray) (w : World) (hm : s.size ≤ 1000000) :
    Calls Tryz.prog 126 #[.string s] w fun e w' => e = .returned (.string s) ∧ Below w.heap.size w w' := by
  go_enter Tryz.func126, Tryz.ntmps126
  go_wp2_with fail
  refine (Tryz.stringslite_Clone s _ (by omega)).mono ?_
  rintro e w1 ⟨rfl, hb⟩
  go_wp2_with fail
  go_ret
  exact ⟨rfl, hb⟩

end Go.Proofs.YthmnnalamaponaaGreat

/- Part Build. -/
namespace Go.Proofs.YthmnnalamaponaaGreat
open Go.RowKit
set_option linter.unusedVariables false

theorem builderAt_below {T e : TypeId} {B b : Nat} {p : Value} {bs : List Value} {W W' : World} (h : Lib.BuilderAtF T e B b p bs W) (hb : Below W.heap.size W W') : Lib.BuilderAtF T e B b p bs W' := by
  have hlt := h.lt
  obtain ⟨hB, v, hv, hown, hne⟩ := h
  exact ⟨hB, v, (hb.block b hlt).trans hv, hown.kept (row := none) ⟨hb.os, hb.tape, hb.output, hb.size, fun k hk _ => hb.block k hk⟩ (Classical.em _), hne⟩
/-- A builder stays, behind a call that only makes new blocks. -/
theorem builder_below {T e : TypeId} {B b : Nat} {bs : List Value} {W W' : World} (h : Lib.IsBuilderF T e B b bs W) (hb : Below W.heap.size W W') : Lib.IsBuilderF T e B b bs W' :=
  h.elim (fun x => .inl (builderAt_below x hb)) (fun x => .inr (builderAt_below x hb))

end Go.Proofs.YthmnnalamaponaaGreat

/- Part RefE. -/
namespace Go.Proofs.YthmnnalamaponaaGreat
open Go.RowKit
set_option linter.unusedVariables false

theorem index_none : ∀ {l : List UInt8} {c : UInt8}, Lib.indexByte l c < 0 → ∀ x ∈ l, x ≠ c
  | [], c, _ => by simp
  | b :: l, c, h => by
    unfold Lib.indexByte at h
    have hge := Lib.indexByte_ge l c
    split at h
    · omega
    · rename_i hb
      split at h
      · rename_i h1
        intro x hx
        rcases List.mem_cons.1 hx with rfl | hx
        · intro e; apply hb; simp [e]
        · exact index_none (l := l) (by have := eq_of_beq h1; omega) x hx
      · rename_i h1
        have : Lib.indexByte l c ≠ -1 := fun e => h1 (by simp [e])
        omega

theorem index_some : ∀ {l : List UInt8} {c : UInt8}, 0 ≤ Lib.indexByte l c → ∃ p q, l = p ++ c :: q ∧ Lib.indexByte l c = p.length ∧ ∀ x ∈ p, x ≠ c
  | [], c, h => by simp [Lib.indexByte] at h
  | b :: l, c, h => by
    by_cases hb : b = c
    · subst hb
      exact ⟨[], l, rfl, by simp [Lib.indexByte], by simp⟩
    · have hb' : (b == c) = false := by simp [hb]
      have e : Lib.indexByte (b :: l) c = if Lib.indexByte l c == -1 then -1 else Lib.indexByte l c + 1 := by
        conv => lhs; unfold Lib.indexByte
        rw [hb']
        rfl
      rw [e] at h ⊢
      have hge := Lib.indexByte_ge l c
      by_cases h1 : Lib.indexByte l c = -1
      · rw [h1] at h; simp at h
      · have h1' : (Lib.indexByte l c == -1) = false := by simp [h1]
        obtain ⟨p, q, hl, hi, hp⟩ := index_some (l := l) (c := c) (by omega)
        refine ⟨b :: p, q, by rw [hl]; rfl, ?_, ?_⟩
        · rw [h1', hi]; simp
        · intro x hx
          rcases List.mem_cons.1 hx with rfl | hx
          · exact hb
          · exact hp x hx

structure DecAt (w1 wr : World) (t : ByteArray) (l acc : List UInt8) : Prop where
  is : decB l = acc ++ decB t.data.toList
  len : acc.length + t.size ≤ l.length
  bu : Lib.IsBuilderF 92 5 w1.heap.size w1.heap.size (Lib.byteCells acc) wr
  bel : Below w1.heap.size w1 wr

set_option maxHeartbeats 4000000 in
set_option maxRecDepth 100000 in
theorem decode_any (s : ByteArray) (w : World) (hm : s.size ≤ 1000000) :
    Calls Tryz.prog 124 #[.string s] w fun e w' => e = .returned (.string ⟨(decB s.data.toList).toArray⟩) ∧ Below w.heap.size w w' := by
  obtain ⟨l, hl⟩ : ∃ l, s.data.toList = l := ⟨_, rfl⟩
  have hsz : s.size = l.length := by rw [← hl]; simp
  have HSL := Lib.hid hl
  have HSZ := Lib.hid hsz
  have hc := contains_any s w (by omega)
  rw [hl] at hc ⊢
  by_cases hi : 0 ≤ Lib.indexByte l 38
  · rw [decide_eq_true hi] at hc
    have HC := Lib.hid hc
    clear hl hsz hc hi
    go_enter Tryz.func124, Tryz.ntmps124
    go_wp2_with fail
    refine HC.out.mono ?_
    rintro e w' ⟨rfl, rfl⟩
    go_wp2_with fail
    refine (names_any _).mono ?_
    rintro e w1 ⟨B, rfl, hN, hb1⟩
    have HNm := Lib.hid hN
    clear hN
    go_wp2_with fail
    refine (Tryz.Builder_Grow_fresh w1.heap.size w1.heap.size s.size _ (Nat.le_refl _) (heap_alloc_new w1 _) (by simp) (by omega)).mono ?_
    rintro e w2 ⟨rfl, hbu, hb2⟩
    have hB2 : Below w1.heap.size w1 w2 := ((Below.refl _ w1).alloc (Nat.le_refl _) _).trans hb2
    have hI2 : Lib.IsBuilderF 92 5 w1.heap.size w1.heap.size (Lib.byteCells []) w2 := Lib.IsBuilderF.of (Or.inr hbu)
    clear hbu hb2
    go_wp2_with fail
    go_loopw [0] (fun x wr => ∃ (t : ByteArray) (acc : List UInt8), x = .string t ∧ DecAt w1 wr t l acc) (fun x _ => match x with | .string t => t.size | _ => 0)
    case atStart => exact ⟨s, [], rfl, by rw [HSL.out]; rfl, by rw [HSZ.out]; simp, hI2, hB2⟩
    case round =>
      obtain ⟨t, acc, rfl, HR⟩ := hrel
      have hlen := HR.len
      have hll : l.length ≤ 1000000 := by rw [← HSZ.out]; exact hm
      obtain ⟨rest, hrest⟩ : ∃ r, t.data.toList = r := ⟨_, rfl⟩
      have hts : t.size = rest.length := by rw [← hrest]; exact str_list t
      have HT := Lib.hid hrest
      have HTZ := Lib.hid hts
      have hix := Tryz.strings_IndexByte t 38 wr
      rw [hrest] at hix
      have h38 : (38 : Int).toNat.toUInt8 = 38 := rfl
      rw [h38] at hix
      have hsl' : s.size ≤ 1000000 := hm
      have hts' : t.size ≤ 1000000 := by omega
      by_cases hneg : Lib.indexByte rest 38 < 0
      · have hF := decB_none (index_none hneg)
        obtain ⟨i, hi⟩ : ∃ i, Lib.indexByte rest 38 = i := ⟨_, rfl⟩
        rw [hi] at hix hneg
        have HIX := Lib.hid hix
        have HF := Lib.hid (show decB l = acc ++ rest by rw [HR.is, HT.out, hF])
        have hlo := Lib.indexByte_ge rest 38
        rw [hi] at hlo
        clear hrest hts hix h38 hi hF
        go_wp2_with fail
        refine HIX.out.mono ?_
        rintro e w3 ⟨rfl, rfl⟩
        go_wp2_with fail
        refine (Tryz.Builder_WriteString_k w1.heap.size w1.heap.size _ t _ HR.bu (by rw [Lib.byteCells_length]; omega) HR.bel.size).mono ?_
        rintro e w4 ⟨rfl, h4, b4, _⟩
        have hB4 := HR.bel.trans b4
        rw [Lib.strCells_eq, HT.out, ← Lib.byteCells_append] at h4
        go_wp2_with fail
        refine (Tryz.Builder_String_any_k w1.heap.size w1.heap.size _ _ (Or.inr h4) hB4.size).mono ?_
        rintro e w5 ⟨rfl, _, b5, _⟩
        have hB5 := below_after hb1 (hB4.trans b5)
        go_wp2_with fail
        go_ret
        rw [HF.out]
        exact ⟨rfl, hB5⟩
      · obtain ⟨p, q, hpq, hi, hp⟩ := index_some (l := rest) (c := 38) (by omega)
        rw [hi] at hix
        have HIX := Lib.hid hix
        obtain ⟨k, hk⟩ : ∃ k, p.length = k := ⟨_, rfl⟩
        have hplen : rest.length = k + (q.length + 1) := by rw [hpq]; simp; omega
        have hkt : (k : Int) ≤ (t.size : Int) := by omega
        have hkt2 : k < t.size := by omega
        have ht1 : (t.extract 0 k).data.toList = p := by rw [take_extract, HT.out, hpq, ← hk]; simp
        have ht1z : (t.extract 0 k).size = k := by rw [ByteArray.size_extract]; omega
        obtain ⟨t2, ht2⟩ : ∃ t2, t.extract k t.size = t2 := ⟨_, rfl⟩
        have ht2l : t2.data.toList = 38 :: q := by rw [← ht2, drop_extract, HT.out, hpq, ← hk]; simp
        have ht2z : t2.size = q.length + 1 := by rw [str_list, ht2l]; simp
        have hdec : decB l = (acc ++ p) ++ decB (38 :: q) := by rw [HR.is, HT.out, hpq, decB_skip p _ hp, List.append_assoc]
        have HDC := Lib.hid hdec
        have H1L := Lib.hid ht1
        have H1Z := Lib.hid ht1z
        have H2 := Lib.hid ht2
        have H2L := Lib.hid ht2l
        have H2Z := Lib.hid ht2z
        have HK := Lib.hid hk
        have hq1 : q.length + 1 ≤ 1000000 := by omega
        have hle4 : t2.size ≤ t.size := by rw [ht2z]; omega
        have hle3 : acc.length + k + (q.length + 1) ≤ l.length := by omega
        rw [hk] at HIX
        obtain ⟨⟨r, n⟩, ho⟩ : ∃ o, oneB (38 :: q) = o := ⟨_, rfl⟩
        have hfact := one_fact (38 :: q)
        have hamp := decB_amp (t := q)
        have href := decB_ref (t := q)
        rw [ho] at hfact hamp href
        simp only at hfact hamp href
        have HO := Lib.hid ho
        have HFC := Lib.hid hfact
        have HAMP := Lib.hid hamp
        have HREF := Lib.hid href
        clear ho hfact hamp href
        clear hrest hts hix h38 hi hneg hpq hplen ht1 ht1z ht2 ht2l ht2z hdec hp hk hlen
        go_wp2_with fail
        refine HIX.out.mono ?_
        rintro e w3 ⟨rfl, rfl⟩
        go_wp2_with fail
        refine (Tryz.Builder_WriteString_k w1.heap.size w1.heap.size _ (t.extract 0 k) _ HR.bu (by rw [Lib.byteCells_length, H1Z.out]; omega) HR.bel.size).mono ?_
        rintro e w4 ⟨rfl, h4, b4, _⟩
        have hB4 := HR.bel.trans b4
        rw [Lib.strCells_eq, H1L.out, ← Lib.byteCells_append] at h4
        have H4 := Lib.hid h4
        clear h4 b4
        go_wp2_with fail
        rw [H2.out]
        go_wp2_with fail
        refine (rone_any t2 B _ (by rw [H2Z.out]; omega) (HNm.out.below hB4)).mono ?_
        rw [H2L.out, HO.out]
        rintro e w5 ⟨rfl, b5⟩
        have hB5 := below_after hB4 b5
        have H5 := Lib.hid (builder_below (Or.inr H4.out) b5)
        clear b5 hB4
        have ht21 : (1 : Int) ≤ (t2.size : Int) := by have := H2Z.out; omega
        have ht22 : t2.size ≤ 1000000 := by have := H2Z.out; omega
        have hnn : 0 ≤ (n : Int) := by omega
        by_cases h0 : n = 0
        · have HE := Lib.hid (HAMP.out h0)
          subst h0
          go_wp2_with fail
          refine (Tryz.Builder_WriteByte_k w1.heap.size w1.heap.size _ 38 _ H5.out (by rw [Lib.byteCells_length, List.length_append, HK.out]; omega) hB5.size).mono ?_
          rintro e w6 ⟨rfl, h6, b6, _⟩
          have hB6 := hB5.trans b6
          have H6 := Lib.hid h6
          clear h6 b6
          go_wp2_with fail
          go_roundw
          case rel =>
            refine ⟨t2.extract 1 t2.size, (acc ++ p) ++ [38], rfl, ?_, ?_, ?_, hB6⟩
            · rw [HDC.out, HE.out, drop_extract, H2L.out]; simp
            · rw [ByteArray.size_extract, List.length_append, List.length_append, HK.out]
              have := H2Z.out
              simp
              omega
            · rw [Lib.byteCells_append]; exact Or.inr H6.out
          case measure => simp only [ByteArray.size_extract, Nat.min_self]; omega
        · have HE := Lib.hid (HREF.out h0)
          have hf := HFC.out h0
          have hn1 : n ≤ t2.size := by have := hf.2.2.2.1; have := H2Z.out; simp at *; omega
          have hn1' : (n : Int) ≤ (t2.size : Int) := by omega
          have hn4 := hf.2.1
          have hr0 : -2147483648 ≤ r ∧ r ≤ 2147483647 := by have := hf.1.1; unfold okR at this; omega
          have BN : ((n : Int) == 0) = false := by simp; omega
          clear h0 hf
          go_wp2_with fail
          refine (Tryz.Builder_WriteRune_k w1.heap.size w1.heap.size _ r hr0.1 hr0.2 _ H5.out (by rw [Lib.byteCells_length, List.length_append, HK.out]; omega) hB5.size).mono ?_
          rintro e w6 ⟨rfl, h6, b6, _⟩
          have hB6 := hB5.trans b6
          have H6 := Lib.hid h6
          clear h6 b6
          go_wp2_with fail
          go_roundw
          case rel =>
            refine ⟨t2.extract n t2.size, (acc ++ p) ++ Lib.encodeRune r, rfl, ?_, ?_, ?_, hB6⟩
            · rw [HDC.out, HE.out, drop_extract, H2L.out]; simp
            · rw [ByteArray.size_extract, List.length_append, List.length_append, HK.out]
              have := H2Z.out
              have := encodeRune_le r
              simp
              omega
            · rw [Lib.byteCells_append, Lib.byteCells_encodeRune]; exact Or.inr H6.out
          case measure => simp only [ByteArray.size_extract, Nat.min_self]; omega
  · rw [decide_eq_false hi] at hc
    have HC := Lib.hid hc
    have HF := Lib.hid (show (⟨(decB l).toArray⟩ : ByteArray) = s by rw [decB_none (index_none (by omega)), ← hl])
    clear hl hsz hc hi
    go_enter Tryz.func124, Tryz.ntmps124
    go_wp2_with fail
    refine HC.out.mono ?_
    rintro e w' ⟨rfl, rfl⟩
    go_wp2_with fail
    refine (clone_any s _ (by omega)).mono ?_
    rintro e w' ⟨rfl, hb⟩
    go_wp2_with fail
    go_ret
    rw [HF.out]
    exact ⟨rfl, hb⟩

end Go.Proofs.YthmnnalamaponaaGreat

/- Part TkG. -/
namespace Go.Proofs.YthmnnalamaponaaGreat
open Go.RowKit
set_option linter.unusedVariables false

/-- A token without attributes, as it is handed back, and how many bytes it takes. -/
def tkv (t : Tk) (va : Value) : Value := .agg #[.int .i64 t.kind, .string t.name, va, .string t.text]
def Plainly (t : Tk) (n : Nat) (w : World) (e : Ending) (w' : World) : Prop := e = .returned (.tuple #[tkv t (.slice none 0 0), .int .i64 n]) ∧ Below w.heap.size w w'

theorem box_on {W W' : World} {k : Nat} {cs : Array Value} {t : TypeId} (h : W.heap[k]? = some (.cells cs t (0, 0))) (hb : Below W.heap.size W W') : W'.heap[k]? = some (.cells cs t (0, 0)) :=
  (hb.block k (Array.getElem?_eq_some_iff.1 h).1).trans h

theorem cut_len (l sep : List UInt8) : (Lib.cut l sep).2.1.length ≤ l.length := by
  unfold Lib.cut
  split
  · show (l.drop _).length ≤ _
    rw [List.length_drop]
    omega
  · exact Nat.zero_le _
theorem cut_len1 (l sep : List UInt8) : (Lib.cut l sep).1.length ≤ l.length := by
  unfold Lib.cut
  split
  · show (l.take _).length ≤ _
    rw [List.length_take]
    omega
  · exact Nat.le_refl _

set_option maxHeartbeats 1000000 in
set_option maxRecDepth 100000 in
theorem remark_any (s mk : ByteArray) (k : Nat) (w : World) (hk : k ≤ s.size) (hm : s.size ≤ 1000000) (HG : Glob w) :
    Calls Tryz.prog 131 #[.string s, .int .i64 k, .string mk] w
      (Plainly (tkR (Lib.cut (s.data.toList.drop k) mk.data.toList).1) (s.size - (Lib.cut (s.data.toList.drop k) mk.data.toList).2.1.length) w) := by
  have hc := fun (W : World) (m : Int) (h : W.cell? ⟨0, 0, none⟩ = some (.int .i64 m)) => Tryz.strings_Cut (s.extract k s.size) mk m W (by rw [ByteArray.size_extract]; omega) h
  rw [drop_extract] at hc
  obtain ⟨m, hg⟩ := HG.below (below_new w (.cells #[.int .i64 0, .string ⟨#[]⟩, .slice none 0 0, .string ⟨#[]⟩] 129))
  have hl := cut_len (s.data.toList.drop k) mk.data.toList
  have hl1 := cut_len1 (s.data.toList.drop k) mk.data.toList
  have hsz : s.data.toList.length = s.size := by simp
  rw [List.length_drop, hsz] at hl hl1
  obtain ⟨C, hC⟩ : ∃ C, Lib.cut (s.data.toList.drop k) mk.data.toList = C := ⟨_, rfl⟩
  rw [hC] at hc hl hl1 ⊢
  obtain ⟨A, B, F⟩ := C
  obtain ⟨a, ha, haz⟩ : ∃ a : ByteArray, (⟨A.toArray⟩ : ByteArray) = a ∧ a.size = A.length := ⟨_, rfl, rfl⟩
  obtain ⟨b, hb, hbz⟩ : ∃ b : ByteArray, (⟨B.toArray⟩ : ByteArray) = b ∧ b.size = B.length := ⟨_, rfl, rfl⟩
  simp only at hc hl hl1 ⊢
  rw [ha, hb] at hc
  have HC := Lib.hid (hc _ m hg)
  have hcl := fun W => clone_any a W (by omega)
  have HCL := Lib.hid hcl
  have HR := Lib.hid (show tkR A = ⟨4, ⟨#[]⟩, [], a⟩ by rw [← ha]; rfl)
  have HBZ := Lib.hid hbz
  have hb2 : b.size ≤ s.size := by omega
  have hk2 : (k : Int) ≤ (s.size : Int) := by omega
  obtain ⟨n, hn⟩ : ∃ n, s.size - B.length = n := ⟨_, rfl⟩
  have hni : IntKind.i64.wrap ((s.size : Int) - (b.size : Int)) = (n : Int) := by rw [IntWalk.i64_left, IntWalk.wrap64_in _ (by omega)]; omega
  have hni2 : wrap64 ((s.size : Int) - (b.size : Int)) = (n : Int) := by rw [IntWalk.wrap64_in _ (by omega)]; omega
  rw [hn, HR.out]
  clear hc hl hl1 hsz hC ha haz hb hbz hn hcl hg
  go_enter Tryz.func131, Tryz.ntmps131
  go_wp2_with fail
  refine HC.out.mono ?_
  rintro e w1 ⟨rfl, nd, rfl⟩
  go_wp2_with fail
  refine (HCL.out _).mono ?_
  rintro e w2 ⟨rfl, hb2⟩
  have hb1 : Below w.heap.size w w2 := (below_drewN (below_new w _) nd).trans (hb2.mono (by show w.heap.size ≤ (w.alloc _).heap.size; simp))
  have hbx := box_on (k := w.heap.size) (show ((w.alloc (.cells #[.int .i64 0, .string ⟨#[]⟩, .slice none 0 0, .string ⟨#[]⟩] 129)).drewN nd).heap[w.heap.size]? = _ from box_here w _ _) hb2
  have d0 : w2.cell? ⟨w.heap.size, 0, none⟩ = some (.int .i64 0) := cell_at hbx 0
  have d1 : w2.cell? ⟨w.heap.size, 1, none⟩ = some (.string ⟨#[]⟩) := cell_at hbx 1
  have d2 : w2.cell? ⟨w.heap.size, 2, none⟩ = some (.slice none 0 0) := cell_at hbx 2
  have d3 : w2.cell? ⟨w.heap.size, 3, none⟩ = some (.string ⟨#[]⟩) := cell_at hbx 3
  have f0 := froz_at hbx 0
  have f1 := froz_at hbx 1
  have f2 := froz_at hbx 2
  have f3 := froz_at hbx 3
  have HB1 := Lib.hid hb1
  clear hbx hb2 hb1
  go_wp2_with fail
  refine bodyPost_ret (v := .tuple #[.agg #[.int .i64 4, .string ⟨#[]⟩, .slice none 0 0, .string a], .int .i64 n]) ?_ rfl ⟨rfl, ?_⟩
  · simp [results, Tryz.f131, go_sem, d0, d1, d2, d3]
  · exact (((HB1.out.setCell (Nat.le_refl _) _).setCell (Nat.le_refl _) _).setCell (Nat.le_refl _) _).setCell (Nat.le_refl _) _

end Go.Proofs.YthmnnalamaponaaGreat
