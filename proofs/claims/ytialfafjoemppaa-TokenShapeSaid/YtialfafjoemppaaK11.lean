/- Parts of the proof, in build order: TkH TkI TkJ TkK TkL CutR. -/
import Derived.Test.YtialfafjoemppaaK10
import Derived.Maps.OwnSet
import Derived.Test.YtialfafjoemppaaK02
import Derived.Test.YtialfafjoemppaaK07
import Derived.Deep.AppendLies
import Derived.Deep.RegionHeld3

/- Part TkH. -/
namespace Go.Proofs.Ytialfafjoemppaa
open Go.RowKit
set_option linter.unusedVariables false

def tk0 : Tk := ⟨0, ⟨#[]⟩, [], ⟨#[]⟩⟩
/-- What Tag and its parts hand back: a token or none, and how many bytes that takes. -/
def TagRet (o : Option Tk) (rest l : List UInt8) (w : World) (e : Ending) (w' : World) : Prop :=
  ∃ (va : Value) (n : Nat), e = .returned (.tuple #[tkv (o.getD tk0) va, .int .i64 n]) ∧ n ≤ l.length ∧ l.drop n = rest ∧ AttrsAt (fun b => w.heap.size ≤ b ∧ b < w'.heap.size) w' (o.getD tk0).attrs va ∧ Below w.heap.size w w'

theorem set4 {w W : World} (h : Below w.heap.size w W) (a b c d : Value) : Below w.heap.size w ((((W.setCell ⟨w.heap.size, 0, none⟩ a).setCell ⟨w.heap.size, 1, none⟩ b).setCell ⟨w.heap.size, 2, none⟩ c).setCell ⟨w.heap.size, 3, none⟩ d) :=
  (((h.setCell (Nat.le_refl _) _).setCell (Nat.le_refl _) _).setCell (Nat.le_refl _) _).setCell (Nat.le_refl _) _
theorem wrapI {x : Int} {n : Nat} (h : x = n) (hb : n ≤ 4000000) : IntKind.i64.wrap x = (n : Int) := by rw [IntWalk.i64_left, IntWalk.wrap64_in _ (by omega)]; omega
theorem wrap6 {x : Int} {n : Nat} (h : x = n) (hb : n ≤ 4000000) : wrap64 x = (n : Int) := by rw [IntWalk.wrap64_in _ (by omega)]; omega

theorem drop_drop_while {p q : UInt8 → Bool} (h : ∀ c, q c = true → p c = true) : ∀ l : List UInt8, (l.dropWhile q).dropWhile p = l.dropWhile p
  | [] => rfl
  | c :: l => by
    cases hq : q c with
    | true =>
      rw [List.dropWhile_cons, if_pos hq, List.dropWhile_cons, if_pos (h c hq)]
      exact drop_drop_while h l
    | false => rw [List.dropWhile_cons (p := q), if_neg (by rw [hq]; decide)]
theorem out_one (q : UInt8) : (fun c : UInt8 => !([q] : List UInt8).contains c) = neC q := by
  funext c
  unfold neC
  rw [List.contains_cons, List.contains_nil, Bool.or_false]
  by_cases h : c = q
  · subst h; simp
  · rw [decide_eq_false h, beq_eq_false_iff_ne.2 h]
theorem tagC_gt {c : UInt8} (h : tagC c = true) : neC 62 c = true := by
  unfold neC
  rw [Bool.not_eq_true', decide_eq_false_iff_not]
  intro e
  subst e
  cases h
theorem drop_gt (l : List UInt8) : (l.dropWhile (neC 62) = [] ∧ ¬ 62 ∈ l) ∨ ∃ k, k < l.length ∧ 62 ∈ l ∧ l.dropWhile (neC 62) = l.drop k ∧ (upTo1 l).2 = l.drop (k + 1) ∧ (l.dropWhile (neC 62)).length = l.length - k := by
  induction l with
  | nil => exact .inl ⟨rfl, by simp⟩
  | cons c l ih =>
    by_cases h : c = 62
    · subst h
      refine .inr ⟨0, by simp, by simp, rfl, rfl, rfl⟩
    · have h1 : neC 62 c = true := by unfold neC; rw [decide_eq_false h]; rfl
      unfold upTo1 at ih ⊢
      rw [List.dropWhile_cons, if_pos h1]
      rcases ih with ⟨e, hn⟩ | ⟨k, hk, hm, e1, e2, e3⟩
      · refine .inl ⟨e, ?_⟩
        rw [List.mem_cons]
        rintro (h2 | h2)
        · exact h h2.symm
        · exact hn h2
      · refine .inr ⟨k + 1, by simp; omega, by simp [hm], e1, ?_, by rw [e3, List.length_cons]; omega⟩
        exact e2
theorem slash_letter {d : UInt8} {r : List UInt8} (h : letC d = true) : slashB (d :: r) = if 62 ∈ d :: r then (some (tkE (((d :: r).takeWhile tagC).map lowB)), (upTo1 (d :: r)).2) else (none, []) := by
  rw [slashB_cons, if_neg (by intro e; subst e; cases h), if_pos h]

set_option maxHeartbeats 2000000 in
set_option maxRecDepth 100000 in
theorem tkend_any (s : ByteArray) (a0 a1 d : UInt8) (r : List UInt8) (hs : s.data.toList = a0 :: a1 :: d :: r) (hd : letC d = true) (w : World) (hm : s.size ≤ 1000000) :
    Calls Try.prog 42 #[.string s] w (TagRet (slashB (d :: r)).1 (slashB (d :: r)).2 s.data.toList w) := by
  have hsz : s.size = (d :: r).length + 2 := by rw [str_list, hs]; rfl
  have hex : (s.extract 2 s.size).data.toList = d :: r := by rw [drop_extract, hs]; rfl
  have H1 := Lib.hid (fun W => part_any (s.extract 2 s.size) 60 #[] tagZ tagC false W (asks_named W) bytely_named (by rw [ByteArray.size_extract]; omega))
  have HSL := Lib.hid (slash_letter (r := r) hd)
  have HS := Lib.hid hs
  obtain ⟨L, hL⟩ : ∃ L, d :: r = L := ⟨_, rfl⟩
  rw [hL] at hsz hex HSL ⊢
  have HSZ := Lib.hid hsz
  have HEX := Lib.hid hex
  have HDR := Lib.hid (show s.data.toList = a0 :: a1 :: L by rw [hs, hL])
  have h2 : (2 : Int) ≤ (s.size : Int) := by omega
  clear hsz hex hs hd hL
  go_enter Try.func42, Try.ntmps42
  go_wp2_with fail
  refine (H1.out _).mono ?_
  rintro e w1 ⟨a, b, rfl, ha, hb, hb1⟩
  rw [HEX.out] at ha hb
  have HA := Lib.hid ha
  have HB := Lib.hid hb
  have hbx1 := box_on (box_here w #[.int .i64 0, .string ⟨#[]⟩, .slice none 0 0, .string ⟨#[]⟩] 31) hb1
  have hB1 := below_after (below_new w _) hb1
  have haz : a.size ≤ 1000000 := by rw [str_list, ha]; have := (List.takeWhile_sublist (p := tagC) (l := L)).length_le; have := HSZ.out; omega
  have hbz : b.size ≤ 1000000 := by rw [str_list, hb]; have := (List.dropWhile_sublist (p := tagC) (l := L)).length_le; have := HSZ.out; omega
  clear ha hb hb1
  go_wp2_with fail
  refine (outside_any _ _).mono ?_
  rintro e w2 ⟨bb, rfl, hbl, hbc, hb2⟩
  have hbx2 := box_on hbx1 hb2
  have hB2 := below_after hB1 hb2
  have H2 := Lib.hid (part_outside b ⟨#[62]⟩ bb w2 hbl hbc rfl (by decide) hbz)
  clear hbx1 hB1 hb2 hbl hbc
  go_wp2_with fail
  refine H2.out.mono ?_
  rintro e w3 ⟨c, b2, rfl, _, h2b, hb3⟩
  rw [out_one, HB.out, drop_drop_while (fun c h => tagC_gt h)] at h2b
  have hbx3 := box_on hbx2 hb3
  have hB3 := below_after hB2 hb3
  have hbe := eqs b2 []
  rw [h2b] at hbe
  have hbsz : b2.size = (L.dropWhile (neC 62)).length := by rw [str_list, h2b]
  have HBX := Lib.hid hbx3
  have HB3 := Lib.hid hB3
  clear hbx2 hB2 hb3 h2b hbx3 hB3
  rcases drop_gt L with ⟨e1, hn⟩ | ⟨k, hk, hmem, e1, e2, e3⟩
  · rw [e1] at hbe hbsz
    have B0 : (b2.toList == []) = true := by rw [hbe]; rfl
    have d0 : w3.cell? ⟨w.heap.size, 0, none⟩ = some (.int .i64 0) := cell_at HBX.out 0
    have d1 : w3.cell? ⟨w.heap.size, 1, none⟩ = some (.string ⟨#[]⟩) := cell_at HBX.out 1
    have d2 : w3.cell? ⟨w.heap.size, 2, none⟩ = some (.slice none 0 0) := cell_at HBX.out 2
    have d3 : w3.cell? ⟨w.heap.size, 3, none⟩ = some (.string ⟨#[]⟩) := cell_at HBX.out 3
    have f0 := froz_at HBX.out 0
    have f1 := froz_at HBX.out 1
    have f2 := froz_at HBX.out 2
    have f3 := froz_at HBX.out 3
    have HN := Lib.hid hn
    clear hbe hbsz e1 hn
    go_wp2_with fail
    refine bodyPost_ret (v := .tuple #[.agg #[.int .i64 0, .string ⟨#[]⟩, .slice none 0 0, .string ⟨#[]⟩], .int .i64 s.size]) ?_ rfl ?_
    · simp [results, Try.f42, go_sem, d0, d1, d2, d3]
    · rw [show slashB L = (none, []) by rw [HSL.out, if_neg HN.out]]
      exact ⟨.slice none 0 0, s.size, rfl, by rw [← str_list]; exact Nat.le_refl _, List.drop_eq_nil_of_le (by rw [← str_list]; exact Nat.le_refl _), AttrsAt.nil _ _, set4 HB3.out _ _ _ _⟩
  · rw [e1] at hbe
    have B0 : (b2.toList == []) = false := by
      rw [hbe, decide_eq_false_iff_not]
      intro e
      have := congrArg List.length e
      rw [List.length_drop] at this
      simp at this
      omega
    have HF := Lib.hid (fun W => fold_any a W (by unfold maxLen; omega))
    have HE1 := Lib.hid e1
    have HE2 := Lib.hid e2
    have HMM := Lib.hid hmem
    have hb2z : b2.size = L.length - k := by rw [hbsz, e3]
    have hs2 : b2.size ≤ s.size := by have := HSZ.out; omega
    obtain ⟨m, hm1⟩ : ∃ m, s.size - b2.size = m := ⟨_, rfl⟩
    have hw1 : IntKind.i64.wrap ((s.size : Int) - (b2.size : Int)) = (m : Int) := wrapI (by omega) (by omega)
    have hw2 : wrap64 ((s.size : Int) - (b2.size : Int)) = (m : Int) := wrap6 (by omega) (by omega)
    have hw3 : IntKind.i64.wrap ((m : Int) + 1) = ((m + 1 : Nat) : Int) := wrapI (by omega) (by omega)
    have HM := Lib.hid (show m + 1 = k + 3 by have := HSZ.out; omega)
    clear hbe hbsz e1 e2 e3 hmem hb2z hm1
    go_wp2_with fail
    refine (HF.out _).mono ?_
    rintro e w4 ⟨rfl, hb4⟩
    have hbx4 := box_on HBX.out hb4
    have hB4 := below_after HB3.out hb4
    have d0 : w4.cell? ⟨w.heap.size, 0, none⟩ = some (.int .i64 0) := cell_at hbx4 0
    have d1 : w4.cell? ⟨w.heap.size, 1, none⟩ = some (.string ⟨#[]⟩) := cell_at hbx4 1
    have d2 : w4.cell? ⟨w.heap.size, 2, none⟩ = some (.slice none 0 0) := cell_at hbx4 2
    have d3 : w4.cell? ⟨w.heap.size, 3, none⟩ = some (.string ⟨#[]⟩) := cell_at hbx4 3
    have f0 := froz_at hbx4 0
    have f1 := froz_at hbx4 1
    have f2 := froz_at hbx4 2
    have f3 := froz_at hbx4 3
    have HB4 := Lib.hid hB4
    clear hbx4 hb4 hB4
    go_wp2_with fail
    refine bodyPost_ret (v := .tuple #[.agg #[.int .i64 2, .string ⟨(a.data.toList.map lowB).toArray⟩, .slice none 0 0, .string ⟨#[]⟩], .int .i64 ((m : Int) + 1)]) ?_ rfl ?_
    · simp [results, Try.f42, go_sem, d0, d1, d2, d3]
    · rw [show slashB L = (some (tkE ((L.takeWhile tagC).map lowB)), (upTo1 L).2) by rw [HSL.out, if_pos HMM.out], ← HA.out]
      refine ⟨.slice none 0 0, m + 1, rfl, ?_, ?_, AttrsAt.nil _ _, set4 HB4.out _ _ _ _⟩
      · rw [← str_list, HM.out, HSZ.out]
        omega
      · rw [HM.out, HDR.out, HE2.out]
        rfl

end Go.Proofs.Ytialfafjoemppaa

/- Part TkI. -/
namespace Go.Proofs.Ytialfafjoemppaa
open Go.RowKit
set_option linter.unusedVariables false

theorem val_set : (fun c : UInt8 => !([9, 10, 12, 32, 62] : List UInt8).contains c) = valC := by
  funext c
  have e : ∀ x y : UInt8, (x == y) = decide (x.toNat = y.toNat) := fun x y => by rw [Bool.eq_iff_iff, beq_iff_eq, decide_eq_true_eq, UInt8.toNat_inj]
  simp only [List.contains_cons, List.contains_nil, valC, blC, e, Bool.or_false, Bool.or_assoc]
  rfl
theorem trim_quote (q : UInt8) (r : List UInt8) : Lib.trimPrefix (r.dropWhile (neC q)) [q] = (r.dropWhile (neC q)).drop 1 := by
  induction r with
  | nil => rfl
  | cons c r ih =>
    by_cases h : c = q
    · subst h
      have : neC c c = false := by simp [neC]
      rw [List.dropWhile_cons, if_neg (by rw [this]; decide)]
      unfold Lib.trimPrefix Lib.hasPrefix
      rw [if_pos (by simp [List.isPrefixOf])]
      rfl
    · have : neC q c = true := by simp [neC, h]
      rw [List.dropWhile_cons, if_pos this]
      exact ih
theorem drop_quote {q : UInt8} : ∀ {r : List UInt8}, ¬ q ∈ r → r.dropWhile (neC q) = []
  | [], _ => rfl
  | c :: r, h => by
    have h1 : ¬ c = q := fun e => h (by simp [e])
    have : neC q c = true := by simp [neC, h1]
    rw [List.dropWhile_cons, if_pos this]
    exact drop_quote fun h2 => h (by simp [h2])

theorem drew_below {w W : World} (h : Below w.drew.heap.size w.drew W) : Below w.heap.size w W := (show Below w.heap.size w w.drew from (Below.refl _ w).drew).trans h

/-- What value hands back. -/
def ValRet (l : List UInt8) (w : World) (e : Ending) (w' : World) : Prop :=
  ∃ a b : ByteArray, e = .returned (.tuple #[.string a, .string b]) ∧ b.data.toList = ((valOf l).map (·.2)).getD [] ∧ (∀ x, valOf l = some x → a.data.toList = x.1) ∧ a.size ≤ l.length ∧ Below w.heap.size w w'

theorem takeW_len (p : UInt8 → Bool) (l : List UInt8) : (l.takeWhile p).length ≤ l.length := (List.takeWhile_sublist p).length_le
theorem dropW_len (p : UInt8 → Bool) (l : List UInt8) : (l.dropWhile p).length ≤ l.length := (List.dropWhile_sublist p).length_le

set_option maxHeartbeats 2000000 in
set_option maxRecDepth 100000 in
theorem value_any (s : ByteArray) (w : World) (hm : s.size ≤ 1000000) : Calls Try.prog 79 #[.string s] w (ValRet s.data.toList w) := by
  obtain ⟨l, hl⟩ : ∃ l, s.data.toList = l := ⟨_, rfl⟩
  have hsz : s.size = l.length := by rw [← hl]; simp
  have he := eqs s []
  have hat := starts_at0 hl
  rw [hl] at he ⊢
  have HSL := Lib.hid hl
  have plain : ∀ w1 : World, ∀ b, b < w1.heap.size → w1.cell? ⟨b, 0, none⟩ = some (.string ⟨#[9, 10, 12, 32, 62]⟩) → Calls Try.prog 59 #[.string s, .func (.func 80) #[] #[.pointer (some ⟨b, 0, none⟩)]] w1 (Parted valC s w1) := fun w1 b hb hc => by
    rw [← val_set]
    exact part_outside s ⟨#[9, 10, 12, 32, 62]⟩ b w1 hb hc rfl (by decide) hm
  have HP := Lib.hid plain
  cases l with
  | nil =>
    have B0 : (s.toList == []) = true := by rw [he]; rfl
    clear hl hsz he hat plain
    go_enter Try.func79, Try.ntmps79
    go_wp2_with fail
    refine (outside_any _ _).mono ?_
    rintro e w1 ⟨b, rfl, hbl, hbc, hb1⟩
    go_wp2_with fail
    refine (HP.out w1 b hbl hbc).mono ?_
    rintro e w2 ⟨x, y, rfl, hx, hy, hb2⟩
    go_wp2_with fail
    go_ret2
    rw [HSL.out] at hx hy
    exact ⟨x, y, rfl, hy, fun z hz => by injection hz with hz; subst hz; exact hx, by rw [str_list, hx]; simp, below_after hb1 hb2⟩
  | cons q r =>
    have hpos : 0 < s.size := by rw [hsz]; simp
    have g0 : ((s[0]'hpos).toNat : Int) = q.toNat := by
      have e := hat 0 hpos
      injection e with e
      rw [e]
    have B0 : (s.toList == []) = false := by rw [he]; rfl
    have hv : valOf (q :: r) = if q = 34 ∨ q = 39 then (if q ∈ r then some (r.takeWhile (neC q), (r.dropWhile (neC q)).drop 1) else none) else some ((q :: r).takeWhile valC, (q :: r).dropWhile valC) := rfl
    have hrl : s.size = r.length + 1 := by rw [hsz]; simp
    have HRL := Lib.hid hrl
    have e34 : (q = 34 ∨ q = 39) ↔ ((q.toNat : Int) = 34 ∨ (q.toNat : Int) = 39) := by
      have e1 : q = 34 ↔ q.toNat = 34 := by rw [← UInt8.toNat_inj]; rfl
      have e2 : q = 39 ↔ q.toNat = 39 := by rw [← UInt8.toNat_inj]; rfl
      rw [e1, e2]
      omega
    clear hl hsz he hat plain hrl
    by_cases hq : q = 34 ∨ q = 39
    · rw [if_pos hq] at hv
      have hq2 := e34.1 hq
      obtain ⟨qs, hqs⟩ : ∃ qs, s.extract 0 1 = qs := ⟨_, rfl⟩
      have h1 : qs.data.toList = [q] := by
        rw [← hqs, take_extract, HSL.out]
        rfl
      have hex : (s.extract 1 s.size).data.toList = r := by rw [drop_extract, HSL.out]; rfl
      have hql : q.toNat < 128 := by omega
      have h2 := fun (w1 : World) (b : Nat) (hb : b < w1.heap.size) (hc : w1.cell? ⟨b, 0, none⟩ = some (.string qs)) => part_outside (s.extract 1 s.size) qs b w1 hb hc (by rw [h1]; show (decide (q.toNat < 128) && true) = true; rw [decide_eq_true hql]; rfl) (by rw [str_list, h1]; exact (by decide : 1 ≤ 1000000)) (by rw [ByteArray.size_extract]; omega)
      rw [h1, out_one] at h2
      have H2 := Lib.hid h2
      have HT := Lib.hid (fun (x : ByteArray) (W : World) => Try.strings_TrimPrefix x qs W)
      rw [h1] at HT
      have HEX := Lib.hid hex
      have HV := Lib.hid hv
      have h1' : (1 : Int) ≤ (s.size : Int) := by omega
      generalize (q.toNat : Int) = y at g0 hq2
      have C : (y != 34 && y != 39) = false := by
        rcases hq2 with h | h <;> subst h <;> rfl
      have HQS := Lib.hid hqs
      clear e34 hq hex hv hql h1 h2 hqs
      cases B1 : (y != 34)
      case' true =>
        have B2 : (y != 39) = false := by rw [B1, Bool.true_and] at C; exact C
      all_goals
        clear C hq2
        go_enter Try.func79, Try.ntmps79
        go_wp2_with fail
        rw [HQS.out]
        have mixed : Try.prog.follows Departure.mixedOrders = true := by kernel_rfl
        go_region_with (first
          | (go_at_call 64; refine (outside_any _ _).mono ?_; rintro e w1 ⟨b, rfl, hbl, hbc, hb1⟩)
          | (go_at_call 59; refine (H2.out w1 b hbl hbc).mono ?_; rintro e w2 ⟨x, z, rfl, hx, hz, hb2⟩))
        have hB2 := below_after hb1 hb2
        rw [HEX.out] at hx hz
        have HX := Lib.hid hx
        have HZ := Lib.hid hz
        clear hx hz hb1 hb2 hbl hbc
        go_wp2_with fail
        refine (HT.out z _).mono ?_
        rintro e w3 ⟨rfl, rfl⟩
        go_wp2_with fail
        go_ret2
        refine ⟨x, ⟨(Lib.trimPrefix z.data.toList [q]).toArray⟩, rfl, ?_, fun u hu => ?_, by rw [str_list, HX.out]; have := takeW_len (neC q) r; simp only [List.length_cons]; omega, drew_below hB2⟩
        · show Lib.trimPrefix z.data.toList [q] = _
          rw [HZ.out, trim_quote, HV.out]
          by_cases hm : q ∈ r
          · rw [if_pos hm]; rfl
          · rw [if_neg hm, drop_quote hm]; rfl
        · rw [HV.out] at hu
          by_cases hm : q ∈ r
          · rw [if_pos hm] at hu
            injection hu with hu
            subst hu
            exact HX.out
          · rw [if_neg hm] at hu
            cases hu
    · rw [if_neg hq] at hv
      have hq2 : ¬ ((q.toNat : Int) = 34 ∨ (q.toNat : Int) = 39) := fun h => hq (e34.2 h)
      have HV := Lib.hid hv
      generalize (q.toNat : Int) = y at g0 hq2
      have B1 : (y != 34) = true := by rw [bne_iff_ne]; exact fun h => hq2 (.inl h)
      have B2 : (y != 39) = true := by rw [bne_iff_ne]; exact fun h => hq2 (.inr h)
      clear e34 hq hv hq2
      go_enter Try.func79, Try.ntmps79
      go_wp2_with fail
      refine (outside_any _ _).mono ?_
      rintro e w1 ⟨b, rfl, hbl, hbc, hb1⟩
      go_wp2_with fail
      refine (HP.out w1 b hbl hbc).mono ?_
      rintro e w2 ⟨x, y, rfl, hx, hy, hb2⟩
      go_wp2_with fail
      go_ret2
      rw [HSL.out] at hx hy
      refine ⟨x, y, rfl, by rw [HV.out]; exact hy, fun z hz => ?_, by rw [str_list, hx]; exact takeW_len _ _, below_after hb1 hb2⟩
      rw [HV.out] at hz
      injection hz with hz
      subst hz
      exact hx

end Go.Proofs.Ytialfafjoemppaa

/- Part TkJ. -/
namespace Go.Proofs.Ytialfafjoemppaa
open Go.RowKit
set_option linter.unusedVariables false

theorem u8beq (x y : UInt8) : (x == y) = decide (x.toNat = y.toNat) := by rw [Bool.eq_iff_iff, beq_iff_eq, decide_eq_true_eq, UInt8.toNat_inj]
theorem go_set : (fun c : UInt8 => !([9, 10, 12, 32, 47, 62, 61] : List UInt8).contains c) = goC := by
  funext c
  simp only [List.contains_cons, List.contains_nil, goC, stopC, blC, u8beq, Bool.or_false, Bool.or_assoc]
  rfl
theorem bl_set : (fun c : UInt8 => ([9, 10, 12, 32] : List UInt8).contains c) = blC := by
  funext c
  simp only [List.contains_cons, List.contains_nil, blC, u8beq, Bool.or_false, Bool.or_assoc]
  rfl

/-- What attribute hands back. -/
def AttRet (l : List UInt8) (w : World) (e : Ending) (w' : World) : Prop :=
  ∃ nm v b : ByteArray, e = .returned (.tuple #[.agg #[.string nm, .string v], .string b]) ∧ b.data.toList = ((attOf l).map (·.2)).getD [] ∧ (∀ x, attOf l = some x → (nm, v) = x.1) ∧ nm.size ≤ l.length ∧ Below w.heap.size w w'

set_option maxHeartbeats 4000000 in
set_option maxRecDepth 100000 in
theorem tkattr_any (s : ByteArray) (w : World) (hm : s.size ≤ 1000000) : Calls Try.prog 63 #[.string s] w (AttRet s.data.toList w) := by
  obtain ⟨l, hl⟩ : ∃ l, s.data.toList = l := ⟨_, rfl⟩
  have hsz : s.size = l.length := by rw [← hl]; simp
  have HSL := Lib.hid hl
  have HSZ := Lib.hid hsz
  rw [hl]
  clear hl hsz
  have h1 := fun (w1 : World) (b : Nat) (hb : b < w1.heap.size) (hc : w1.cell? ⟨b, 0, none⟩ = some (.string ⟨#[9, 10, 12, 32, 47, 62, 61]⟩)) => part_outside s ⟨#[9, 10, 12, 32, 47, 62, 61]⟩ b w1 hb hc rfl (by decide) hm
  have h2 := fun (x : ByteArray) (hx : x.size ≤ 1000000) (w1 : World) (b : Nat) (hb : b < w1.heap.size) (hc : w1.cell? ⟨b, 0, none⟩ = some (.string ⟨#[9, 10, 12, 32]⟩)) => part_among x ⟨#[9, 10, 12, 32]⟩ b w1 hb hc rfl (by decide) hx
  simp only [go_set] at h1
  simp only [bl_set] at h2
  have H1 := Lib.hid h1
  have H2 := Lib.hid h2
  clear h1 h2
  go_enter Try.func63, Try.ntmps63
  go_wp2_with fail
  refine (outside_any _ _).mono ?_
  rintro e w1 ⟨b1, rfl, hbl, hbc, hb1⟩
  have h3 := H1.out w1 b1 hbl hbc
  have hbx1 := box_on (box_here w #[.string ⟨#[]⟩, .string ⟨#[]⟩] 40) hb1
  have hB1 := below_after (below_new w _) hb1
  have H3 := Lib.hid h3
  clear h3 hb1 hbl hbc H1
  go_wp2_with fail
  refine H3.out.mono ?_
  rintro e w2 ⟨nm0, left1, rfl, hn0, hl1, hb2⟩
  rw [HSL.out] at hn0 hl1
  have hbx2 := box_on hbx1 hb2
  have hB2 := below_after hB1 hb2
  have hnz : nm0.size ≤ l.length := by rw [str_list, hn0]; exact takeW_len _ _
  have hlz : left1.size ≤ l.length := by rw [str_list, hl1]; exact dropW_len _ _
  have hls : l.length ≤ 1000000 := by rw [← HSZ.out]; exact hm
  have HN0 := Lib.hid hn0
  have HL1 := Lib.hid hl1
  clear hn0 hl1 hb2 hbx1 hB1 H3
  go_wp2_with fail
  refine (fold_any nm0 _ (by unfold maxLen; omega)).mono ?_
  rintro e w3 ⟨rfl, hb3⟩
  rw [HN0.out]
  obtain ⟨nm, hnm, hnml, hnmz⟩ := str_of ((l.takeWhile goC).map lowB)
  rw [hnm]
  have hbx3 := box_on hbx2 hb3
  have hB3 := below_after hB2 hb3
  have hnmz2 : nm.size ≤ l.length := by rw [hnmz, List.length_map]; exact takeW_len _ _
  have HNM := Lib.hid (show nm = tB (nameAt l) from hnm.symm)
  clear hnm hnml hnmz hbx2 hB2 hb3
  go_wp2_with fail
  refine (among_any _ _).mono ?_
  rintro e w4 ⟨b2, rfl, hbl, hbc, hb4⟩
  have hnw : w.heap.size < w3.heap.size := (Array.getElem?_eq_some_iff.1 hbx3).1
  have hax4 := box_on (box_here w3 #[.string nm, .string ⟨#[]⟩] 40) hb4
  have hbx4 := box_on (box_on hbx3 (below_new w3 (.cells #[.string nm, .string ⟨#[]⟩] 40))) hb4
  have hB4 := below_after (below_after hB3 (below_new w3 _)) hb4
  have H3 := Lib.hid (H2.out left1 (by omega) w4 b2 hbl hbc)
  clear hbx3 hB3 hb4 hbl hbc
  go_wp2_with fail
  refine H3.out.mono ?_
  rintro e w5 ⟨_, left2, rfl, _, hl2, hb5⟩
  rw [HL1.out] at hl2
  have hax5 := box_on hax4 hb5
  have hbx5 := box_on hbx4 hb5
  have hB5 := below_after hB4 hb5
  have hl2z : left2.size ≤ l.length := by rw [str_list, hl2]; exact Nat.le_trans (dropW_len _ _) (dropW_len _ _)
  have hpre := Try.strings_HasPrefix left2 ⟨#[61]⟩ w5
  rw [hl2] at hpre
  have HBH := Lib.hid (show left2.data.toList = behind l from hl2)
  have hbh : (l.dropWhile goC).dropWhile blC = behind l := rfl
  rw [hbh] at hpre
  have HAX := Lib.hid hax5
  have HBX := Lib.hid hbx5
  have HB5 := Lib.hid hB5
  clear hl2 hbx4 hax4 hB4 hb5 H3 hbh hax5 hbx5 hB5
  have d0 : w5.cell? ⟨w.heap.size, 0, none⟩ = some (.string ⟨#[]⟩) := cell_at HBX.out 0
  have d1 : w5.cell? ⟨w.heap.size, 1, none⟩ = some (.string ⟨#[]⟩) := cell_at HBX.out 1
  have a0 : w5.cell? ⟨w3.heap.size, 0, none⟩ = some (.string nm) := cell_at HAX.out 0
  have a1 : w5.cell? ⟨w3.heap.size, 1, none⟩ = some (.string ⟨#[]⟩) := cell_at HAX.out 1
  have f0 := froz_at HBX.out 0
  have f1 := froz_at HBX.out 1
  have fa1 := froz_at HAX.out 1
  by_cases hq : ∃ r, behind l = 61 :: r
  · obtain ⟨r, hr⟩ := hq
    rw [hr] at hpre
    have hpre2 : Calls Try.prog 43 #[.string left2, .string ⟨#[61]⟩] w5 fun e w' => e = .returned (.bool true) ∧ w' = w5 := hpre
    have HPRE := Lib.hid hpre2
    have HR := Lib.hid hr
    have hex : (left2.extract 1 left2.size).data.toList = r := by rw [drop_extract, HBH.out, hr]; rfl
    have hlen : left2.size = r.length + 1 := by rw [str_list, HBH.out, hr]; rfl
    have h1' : (1 : Int) ≤ (left2.size : Int) := by omega
    have HEX := Lib.hid hex
    have H4 := Lib.hid (H2.out (left2.extract 1 left2.size) (by rw [ByteArray.size_extract]; omega))
    have hrz : r.length ≤ 1000000 := by omega
    clear hpre hpre2 hr hex hlen d0 d1 a0 a1 f0 f1 fa1
    go_wp2_with fail
    refine HPRE.out.mono ?_
    rintro e w6 ⟨rfl, rfl⟩
    go_wp2_with fail
    have mixed : Try.prog.follows Departure.mixedOrders = true := by kernel_rfl
    go_region_with (first
      | (go_at_call 62; refine (among_any _ _).mono ?_; rintro e w7 ⟨b3, rfl, hbl3, hbc3, hb7⟩)
      | (go_at_call 59; refine (H4.out w7 b3 hbl3 hbc3).mono ?_; rintro e w8 ⟨x, left3, rfl, hx, hl3, hb8⟩))
    have hb8' := drew_below (below_after hb7 hb8)
    rw [HEX.out] at hl3
    have HL3 := Lib.hid hl3
    have hax8 := box_on HAX.out hb8'
    have hbx8 := box_on HBX.out hb8'
    have hB8 := below_after HB5.out hb8'
    have hl3z : left3.size ≤ 1000000 := by rw [str_list, hl3]; exact Nat.le_trans (dropW_len _ _) hrz
    clear hl3 hx hb7 hb8 hbl3 hbc3 hb8'
    go_wp2_with fail
    refine (value_any left3 _ hl3z).mono ?_
    rintro e w9 ⟨tx, left4, rfl, hl4, htx, htz, hb9⟩
    rw [HL3.out] at hl4 htx htz
    have hax9 := box_on hax8 hb9
    have hbx9 := box_on hbx8 hb9
    have hB9 := below_after hB8 hb9
    have htz2 : tx.size ≤ 1000000 := Nat.le_trans htz (Nat.le_trans (dropW_len _ _) hrz)
    have HL4 := Lib.hid hl4
    have HTX := Lib.hid htx
    clear hl4 htx htz hb9 hax8 hbx8 hB8
    go_wp2_with fail
    refine (decode_any tx _ htz2).mono ?_
    rintro e w10 ⟨rfl, hb10⟩
    have hax10 := box_on hax9 hb10
    have hbx10 := box_on hbx9 hb10
    have HB10 := Lib.hid (below_after hB9 hb10)
    have d0 : w10.cell? ⟨w.heap.size, 0, none⟩ = some (.string ⟨#[]⟩) := cell_at hbx10 0
    have d1 : w10.cell? ⟨w.heap.size, 1, none⟩ = some (.string ⟨#[]⟩) := cell_at hbx10 1
    have a0 : w10.cell? ⟨w3.heap.size, 0, none⟩ = some (.string nm) := cell_at hax10 0
    have a1 : w10.cell? ⟨w3.heap.size, 1, none⟩ = some (.string ⟨#[]⟩) := cell_at hax10 1
    have f0 := froz_at hbx10 0
    have f1 := froz_at hbx10 1
    have fa1 := froz_at hax10 1
    clear hax9 hbx9 hB9 hb10 hax10 hbx10
    go_wp2_with fail
    have hne : w3.heap.size ≠ w.heap.size := Nat.ne_of_gt hnw

    refine bodyPost_ret (v := .tuple #[.agg #[.string nm, .string ⟨(decB tx.data.toList).toArray⟩], .string left4]) ?_ rfl ?_
    · simp [results, Try.f63, go_sem, d0, d1]
    · refine ⟨nm, ⟨(decB tx.data.toList).toArray⟩, left4, rfl, ?_, fun y hy => ?_, hnmz2, ((HB10.out.setCell (Nat.le_of_lt hnw) _).setCell (Nat.le_refl _) _).setCell (Nat.le_refl _) _⟩
      · rw [attOf_eq HR.out, HL4.out]
        cases valOf (r.dropWhile blC) <;> rfl
      · rw [attOf_eq HR.out] at hy
        cases hv : valOf (r.dropWhile blC) with
        | none => rw [hv] at hy; cases hy
        | some z =>
          rw [hv] at hy
          injection hy with hy
          subst hy
          rw [HTX.out z hv, ← HNM.out]
          rfl
  · have hpf : Lib.hasPrefix (behind l) [61] = false := by
      cases hb : behind l with
      | nil => rfl
      | cons c r =>
        have hc : c ≠ 61 := fun e => hq ⟨r, by rw [hb, e]⟩
        show ((61 == c) && _) = false
        rw [beq_eq_false_iff_ne.2 (fun e => hc e.symm)]
        rfl
    have hpre2 : Calls Try.prog 43 #[.string left2, .string ⟨#[61]⟩] w5 fun e w' => e = .returned (.bool false) ∧ w' = w5 := by rw [← hpf]; exact hpre
    have HPRE := Lib.hid hpre2
    have HA := Lib.hid (show attOf l = some ((tB (nameAt l), tB []), behind l) by
      cases hb : behind l with
      | nil => exact attOf_nil hb
      | cons c r => exact attOf_other hb fun e => hq ⟨r, by rw [hb, e]⟩)
    clear hpre hpre2 hpf hq
    go_wp2_with fail
    refine HPRE.out.mono ?_
    rintro e w6 ⟨rfl, rfl⟩
    go_wp2_with fail
    refine bodyPost_ret (v := .tuple #[.agg #[.string nm, .string ⟨#[]⟩], .string left2]) ?_ rfl ?_
    · simp [results, Try.f63, go_sem, d0, d1]
    · refine ⟨nm, ⟨#[]⟩, left2, rfl, by rw [HA.out, HBH.out]; rfl, fun y hy => ?_, hnmz2, (HB5.out.setCell (Nat.le_refl _) _).setCell (Nat.le_refl _) _⟩
      rw [HA.out] at hy
      injection hy with hy
      subst hy
      rw [← HNM.out]
      rfl

end Go.Proofs.Ytialfafjoemppaa

/- Part TkK. -/
namespace Go.Proofs.Ytialfafjoemppaa
open Go.RowKit Go.Maps
set_option linter.unusedVariables false

theorem zeroUnitK (w : World) : (zeroValue 86).run Try.prog w = .ok (.agg #[]) w := by kernel_rfl

/-- What a datum says of texts. -/
def SView (D : DataW Unit) (f : List UInt8 → Bool) : Prop := IsMap D ∧ ∀ l, Maps.has D (.string l) = f l
theorem SView.empty : SView (.map []) (fun _ => false) := ⟨isMap_empty, fun l => rfl⟩
theorem SView.put {D : DataW Unit} {f : List UInt8 → Bool} (h : SView D f) (k : List UInt8) : SView (D.put (.string k) (.agg [])) (fun l => decide (l = k) || f l) := by
  refine ⟨h.1.put _ _, fun l => ?_⟩
  by_cases e : l = k
  · subst e
    rw [has_put_same h.1 (show WideAt.IsKeyLit (.string l) from trivial)]
    simp
  · have hne : (Lit.string l) ≠ .string k := by intro h; injection h; exact e ‹_›
    rw [has_put_other hne, h.2 l]
    show f l = (decide (l = k) || f l)
    rw [decide_eq_false e, Bool.false_or]

/-- Block b is a set of at most n texts, of just those that f tells. -/
def Seen (w : World) (b n : Nat) (f : List UInt8 → Bool) : Prop := ∃ D : DataW Unit, w.ownsMap Try.prog 9 unitElem b n D ∧ SView D f

theorem Seen.lt {w : World} {b n : Nat} {f : List UInt8 → Bool} (h : Seen w b n f) : b < w.heap.size := by
  obtain ⟨D, h, _⟩ := h
  exact h.lt
theorem Seen.kept {w w' : World} {b n : Nat} {f : List UInt8 → Bool} (h : Seen w b n f) (hb : w'.heap[b]? = w.heap[b]?) : Seen w' b n f := by
  obtain ⟨D, ⟨es, clock, hh, F, hs, hD⟩, hv⟩ := h
  exact ⟨D, ⟨es, clock, hb.trans hh, F, hs, hD⟩, hv⟩
theorem Seen.below {w w' : World} {b n : Nat} {f : List UInt8 → Bool} (h : Seen w b n f) (hb : Below w.heap.size w w') : Seen w' b n f := h.kept (hb.block b h.lt)
theorem Seen.made (w : World) : Seen (w.alloc (.map #[] 0)) w.heap.size 0 (fun _ => false) := ⟨_, World.ownsMap_made _ _ _ _, SView.empty⟩
theorem Seen.congr {w : World} {b n : Nat} {f g : List UInt8 → Bool} (h : Seen w b n f) (e : ∀ l, f l = g l) : Seen w b n g := by
  have : f = g := funext e
  subst this
  exact h

set_option maxRecDepth 100000 in
/-- '_, is := seen[s]'. -/
theorem Seen.look {w : World} {b n : Nat} {f : List UInt8 → Bool} (h : Seen w b n f) (k : ByteArray) (hk : k.size ≤ maxLen) :
    (Instr.lookup 82 (.map (some b)) (.string k) true).run Try.prog w = .ok (.tuple #[.agg #[], .bool (f k.data.toList)]) w := by
  obtain ⟨D, hown, hv⟩ := h
  obtain ⟨v, ps, hrun, hv2⟩ := hown.look_ok strKeyed Try.underlying82 (zeroUnitK w) unitElem_mk (Go.WideMaps.keyOf_string_mk Try.underlying9 hk)
  obtain ⟨rfl, _⟩ := unitElem_inv hv2
  rw [hrun, hv.2]

set_option maxRecDepth 100000 in
/-- 'seen[s] = struct{}{}'. -/
theorem Seen.store {w : World} {b n : Nat} {f : List UInt8 → Bool} (h : Seen w b n f) (hn : n ≤ 2000000) (k : ByteArray) (hk : k.size ≤ maxLen) :
    ∃ w', (Instr.mapUpdate 82 (.map (some b)) (.string k) (.agg #[])).run Try.prog w = .ok () w' ∧ Seen w' b (n + 1) (fun l => decide (l = k.data.toList) || f l) ∧ w.grownBy w' (some b) := by
  obtain ⟨D, hown, hv⟩ := h
  obtain ⟨w', hrun, r1, r2⟩ := hown.update strKeyed Try.underlying82 (by unfold maxLen; omega) (Go.WideMaps.keyOf_string_mk Try.underlying9 hk) unitElem_mk
  exact ⟨w', hrun, ⟨_, r1, hv.put _⟩, r2⟩

end Go.Proofs.Ytialfafjoemppaa

/- Part TkL. -/
namespace Go.Proofs.Ytialfafjoemppaa
open Go.RowKit
set_option linter.unusedVariables false

/-- What is passed over ahead of an attribute. -/
def skipC (c : UInt8) : Bool := stopC c && !decide (c = 62)
theorem skip_set : (fun c : UInt8 => ([9, 10, 12, 32, 47, 61] : List UInt8).contains c) = skipC := by
  funext c
  have e : ∀ x y : UInt8, decide (x = y) = decide (x.toNat = y.toNat) := fun x y => by rw [decide_eq_decide, UInt8.toNat_inj]
  have h62 : (62 : UInt8).toNat = 62 := rfl
  unfold skipC stopC blC
  simp only [List.contains_cons, List.contains_nil, u8beq, e, Bool.or_false]
  rw [Bool.eq_iff_iff]
  simp
  omega
theorem atts_skip (acc : List (ByteArray × ByteArray)) : ∀ l : List UInt8, attsOf acc (l.dropWhile skipC) = attsOf acc l
  | [] => rfl
  | c :: r => by
    cases h : skipC c with
    | true =>
      rw [List.dropWhile_cons, if_pos h, atts_skip acc r]
      unfold skipC at h
      simp only [Bool.and_eq_true, Bool.not_eq_true', decide_eq_false_iff_not] at h
      rw [attsOf_skip acc r h.2 h.1]
    | false => rw [List.dropWhile_cons, if_neg (by rw [h]; decide)]
theorem skip_head {l : List UInt8} {c : UInt8} {r : List UInt8} (h : l.dropWhile skipC = c :: r) (hc : c ≠ 62) : stopC c = false := by
  have := List.head?_dropWhile_not (p := skipC) (l := l)
  rw [h] at this
  simp [skipC, hc] at this
  exact this

theorem valOf_suf {l : List UInt8} {x : List UInt8 × List UInt8} (h : valOf l = some x) : x.2 <:+ l := by
  cases l with
  | nil =>
    have h' : some (([], []) : List UInt8 × List UInt8) = some x := h
    injection h' with h'
    subst h'
    exact List.suffix_refl _
  | cons q r =>
    rw [valOf_cons] at h
    split at h
    · split at h
      · injection h with h
        subst h
        exact (List.drop_suffix _ _).trans ((List.dropWhile_suffix _).trans (List.suffix_cons _ _))
      · cases h
    · injection h with h
      subst h
      exact List.dropWhile_suffix _
theorem attOf_suf {l : List UInt8} {x : (ByteArray × ByteArray) × List UInt8} (h : attOf l = some x) : x.2 <:+ l := by
  have hb : behind l <:+ l := (List.dropWhile_suffix _).trans (List.dropWhile_suffix _)
  cases hl : behind l with
  | nil =>
    rw [attOf_nil hl] at h
    injection h with h
    subst h
    exact List.nil_suffix
  | cons c r =>
    rw [hl] at hb
    by_cases hc : c = 61
    · subst hc
      rw [attOf_eq hl] at h
      cases hv : valOf (r.dropWhile blC) with
      | none => rw [hv] at h; cases h
      | some y =>
        rw [hv] at h
        injection h with h
        subst h
        exact (valOf_suf hv).trans ((List.dropWhile_suffix _).trans ((List.suffix_cons _ _).trans hb))
    · rw [attOf_other hl hc] at h
      injection h with h
      subst h
      exact hb
theorem suf_drop {l L : List UInt8} (h : L <:+ l) : ∃ m, m ≤ l.length ∧ L = l.drop m ∧ L.length = l.length - m := by
  obtain ⟨t, rfl⟩ := h
  exact ⟨t.length, by simp, by simp, by simp⟩

/-- One attribute more, or not. -/
theorem addA_len (acc : List (ByteArray × ByteArray)) (a : ByteArray × ByteArray) : (addA acc a).length ≤ acc.length + 1 := by
  unfold addA
  split
  · omega
  · simp
def metB (acc : List (ByteArray × ByteArray)) (k : List UInt8) : Bool := acc.any (fun x => decide (x.1.data.toList = k))
theorem addA_met {acc : List (ByteArray × ByteArray)} {a : ByteArray × ByteArray} (h : metB acc a.1.data.toList = true) : addA acc a = acc := by
  unfold addA
  rw [if_pos]
  unfold metB at h
  rw [← h]
  congr 1
  funext x
  rw [decide_eq_decide]
  exact ⟨fun e => by rw [e], fun e => bytes_inj e⟩
theorem addK_new {acc : List (ByteArray × ByteArray)} {a : ByteArray × ByteArray} (h : metB acc a.1.data.toList = false) : addA acc a = acc ++ [a] := by
  unfold addA
  rw [if_neg]
  rw [Bool.not_eq_true]
  unfold metB at h
  rw [← h]
  congr 1
  funext x
  rw [decide_eq_decide]
  exact ⟨fun e => by rw [e], fun e => bytes_inj e⟩
theorem metB_snoc (acc : List (ByteArray × ByteArray)) (a : ByteArray × ByteArray) (k : List UInt8) : (decide (k = a.1.data.toList) || metB acc k) = metB (acc ++ [a]) k := by
  unfold metB
  rw [List.any_append, Bool.or_comm]
  congr 1
  simp only [List.any_cons, List.any_nil, Bool.or_false]
  rw [decide_eq_decide]
  exact ⟨fun e => e.symm, fun e => e.symm⟩

end Go.Proofs.Ytialfafjoemppaa

/- Part CutR. -/
namespace Go.Proofs.Ytialfafjoemppaa
open Go.RowKit
set_option linter.unusedVariables false
set_option linter.unusedSimpArgs false

/-- A node's own parts are no greater than anything may be. -/
structure FineN (n : Nd) : Prop where
  nm : n.name.size ≤ maxLen
  tx : n.text.size ≤ maxLen
  al : n.attrs.length ≤ maxLen
  aa : ∀ a ∈ n.attrs, a.1.size ≤ maxLen ∧ a.2.size ≤ maxLen
inductive Fine : List Nd → Prop
  | mk (l : List Nd) (hl : l.length ≤ maxLen) (h : ∀ n ∈ l, FineN n) (hk : ∀ n ∈ l, Fine n.kids) : Fine l
theorem Fine.len {l : List Nd} (h : Fine l) : l.length ≤ maxLen := by cases h; assumption
theorem Fine.at_ {l : List Nd} (h : Fine l) {k : Nat} {n : Nd} (hn : l[k]? = some n) : FineN n ∧ Fine n.kids := by
  cases h with
  | mk l hl h hk => exact ⟨h n (List.mem_of_getElem? hn), hk n (List.mem_of_getElem? hn)⟩

theorem few3_same (s : ByteArray) (w : World) (hm : s.size ≤ maxLen) :
    Calls Try.prog 58 #[.string s] w fun e w' => e = .returned (.string (few3S s)) ∧ w' = w :=
  (few3_any s w hm).mono fun _ _ ⟨he, hw⟩ => ⟨he, hw.symm⟩

/-- Texts alone; elements b with attributes id alone, and texts alone for kids. -/
def ShK (l : List Nd) : Prop := ∀ q ∈ l, q.kind = 2
def Sh (l : List Nd) : Prop := ∀ m ∈ l, m.kind = 1 ∧ m.name = ⟨#[98]⟩ ∧ (∀ a ∈ m.attrs, a.1 = ⟨#[105, 100]⟩) ∧ ShK m.kids
/-- Such lists stay such lists. -/
def Kp (l out : List Nd) : Prop := (ShK l → ShK out) ∧ (Sh l → Sh out)
theorem Kp.nil (l : List Nd) : Kp l [] := by
  refine ⟨fun _ => ?_, fun _ => ?_⟩
  · intro q hq; cases hq
  · intro q hq; cases hq
theorem Kp.snoc {l out out2 : List Nd} {k : Nat} {n : Nd} (h : Kp l out) (hn : l[k]? = some n) (h2 : Kp n.kids out2) {a : List (ByteArray × ByteArray)} (ha : ∀ y ∈ a, ∃ x ∈ n.attrs, y.1 = few3S x.1) (t : ByteArray) : Kp l (out ++ [.mk n.kind (few3S n.name) a t out2]) := by
  have hm := List.mem_of_getElem? hn
  refine ⟨fun hs q hq => ?_, fun hs q hq => ?_⟩
  · rcases List.mem_append.1 hq with hq | hq
    · exact h.1 hs q hq
    · simp at hq
      subst hq
      exact hs n hm
  · rcases List.mem_append.1 hq with hq | hq
    · exact h.2 hs q hq
    · simp at hq
      subst hq
      obtain ⟨e1, e2, e4, e3⟩ := hs n hm
      refine ⟨e1, ?_, fun y hy => ?_, h2.1 e3⟩
      · show few3S n.name = _
        rw [e2]
        rfl
      · obtain ⟨x, hx, e⟩ := ha y hy
        rw [e, e4 x hx]
        rfl

structure CutAt (w wr : World) (l : List Nd) (most k m : Nat) (out : List Nd) (v : Value) : Prop where
  le : k ≤ l.length
  lm : m ≤ most
  own : OwnC wr w.heap.size w.heap.size out v
  sz : szL out ≤ 420 * (most - m)
  bel : Below w.heap.size w wr
  kp : Kp l out
def CutRel (w : World) (l : List Nd) (most : Nat) (x y z : Value) (wr : World) : Prop := ∃ (k m : Nat) (out : List Nd), x = .int .i64 m ∧ z = .int .i64 k ∧ CutAt w wr l most k m out y

structure InAt (W0 wr : World) (j : Nat) (a : List (ByteArray × ByteArray)) (v : Value) (al : List (ByteArray × ByteArray)) : Prop where
  le : j ≤ al.length
  l5 : j ≤ 5
  ln : a.length = j
  sz : szA a ≤ 70 * j
  own : wr.ownsRow W0.heap.size 40 2 v j (acells a)
  bel : Below W0.heap.size W0 wr
  nm : ∀ y ∈ a, ∃ x ∈ al, y.1 = few3S x.1
theorem nm_snoc {a al : List (ByteArray × ByteArray)} (h : ∀ y ∈ a, ∃ x ∈ al, y.1 = few3S x.1) {x : ByteArray × ByteArray} (hx : x ∈ al) (u : ByteArray) : ∀ y ∈ a ++ [(few3S x.1, u)], ∃ x ∈ al, y.1 = few3S x.1 := by
  intro y hy
  rcases List.mem_append.1 hy with hy | hy
  · exact h y hy
  · simp at hy
    subst hy
    exact ⟨x, hx, rfl⟩
def InRel (W0 : World) (al : List (ByteArray × ByteArray)) (x y : Value) (wr : World) : Prop := ∃ (j : Nat) (a : List (ByteArray × ByteArray)), y = .int .i64 j ∧ InAt W0 wr j a x al

theorem new_two (w : World) (t : TypeId) (x y : ByteArray) : ∀ j u, (acells [(x, y)])[j]? = some u → (w.alloc (.cells #[.string x, .string y] t)).cell? ((⟨w.heap.size, 0, none⟩ : Addr).add j) = some u := by
  intro j u hj
  rw [add_zero_addr]
  match j, hj with
  | 0, hj => simp [acells] at hj; subst hj; simp
  | 1, hj => simp [acells] at hj; subst hj; simp
  | j + 2, hj => simp [acells] at hj
theorem acells_one (l : List (ByteArray × ByteArray)) : ∀ u ∈ acells l, u.oneCell' = true := by
  intro u hu
  unfold acells at hu
  obtain ⟨a, _, hu⟩ := List.mem_flatMap.1 hu
  simp at hu
  rcases hu with rfl | rfl <;> rfl

/-- What lies below the call's own rows stays, while these grow. -/
theorem far_cell {W W' : World} {B e s : Nat} {v : Value} {n : Nat} {xs : List Value} {b i : Nat} (hg : W.grownBy W' v.ownBlock) (h : W.ownsRow B e s v n xs) (hb : b < B) (hw : b < W.heap.size) : W'.cell? ⟨b, i, none⟩ = W.cell? ⟨b, i, none⟩ :=
  World.cell?_of_block (a := ⟨b, i, none⟩) (hg.block b hw (fun e => by have := (h.lt b e.symm).1; omega))

theorem kept_store {w : World} (a : Addr) (v : Value) (ob : Obj) : Kept (fun b => b ≠ a.block ∧ b < w.heap.size) w ((w.setCell a v).alloc ob) := by
  intro b hb i
  refine (World.cell?_alloc_past (w := w.setCell a v) ob b i (by simpa using hb.2)).trans ?_
  exact World.cell?_setCell_other _ _ _ _ (by intro e; exact hb.1 (by rw [e]))

/-- A node is whole: what hangs on it, and the list that it goes into. -/
theorem cut_node {w wo w2 W0 wr : World} {out out2 : List Nd} {u v2 v9 : Value} {j : Nat} {a : List (ByteArray × ByteArray)} (hw : w.heap.size ≤ wo.heap.size) (hown : OwnC wo w.heap.size w.heap.size out u)
    (hz : wo.heap.size < w2.heap.size) (h0 : W0.heap.size = w2.heap.size) (hbo : Below wo.heap.size wo W0) (kp : Kept (fun b => wo.heap.size < b ∧ b < w2.heap.size) w2 W0)
    (own2 : OwnC w2 (wo.heap.size + 1) (wo.heap.size + 1) out2 v2) (hib : Below W0.heap.size W0 wr) (hia : wr.ownsRow W0.heap.size 40 2 v9 j (acells a)) (hil : a.length = j) (ob : Obj) :
    OwnC ((wr.setCell ⟨wo.heap.size, 2, none⟩ v9).alloc ob) w.heap.size w.heap.size out u ∧ AttrsAt (Sub w.heap.size ((wr.setCell ⟨wo.heap.size, 2, none⟩ v9).alloc ob) u) ((wr.setCell ⟨wo.heap.size, 2, none⟩ v9).alloc ob) a v9 ∧
      Tree (Sub w.heap.size ((wr.setCell ⟨wo.heap.size, 2, none⟩ v9).alloc ob) u) ((wr.setCell ⟨wo.heap.size, 2, none⟩ v9).alloc ob) out2 v2 := by
  have hwr := hib.size
  have hlto := OwnT.lt hown
  have hsz : ((wr.setCell ⟨wo.heap.size, 2, none⟩ v9).alloc ob).heap.size = wr.heap.size + 1 := by simp
  have hbf : Below wo.heap.size wo ((wr.setCell ⟨wo.heap.size, 2, none⟩ v9).alloc ob) := by
    have h1 : Below wo.heap.size wo wr := hbo.trans (hib.mono (by omega))
    exact (h1.setCell (p := ⟨wo.heap.size, 2, none⟩) (Nat.le_refl _) _).alloc (by simp; omega) _
  have kf := kept_store (w := wr) ⟨wo.heap.size, 2, none⟩ v9 ob
  refine ⟨hown.later hbf, ?_, ?_⟩
  · obtain ⟨A9, c9, rfl, hc9⟩ := own_size hia
    subst hil
    refine ⟨A9, c9, rfl, hc9, ((Cells.own hia).keep (kf.mono ?_)).mono ?_⟩
    · intro b hb
      have := hia.lt b hb
      exact ⟨by show b ≠ wo.heap.size; omega, this.2⟩
    · intro b hb
      have := hia.lt b hb
      refine ⟨by omega, by rw [hsz]; omega, fun e => ?_⟩
      have := (hlto b e).2
      omega
  · have t := own2.tree (Nat.le_refl _)
    refine (((t.keep (kp.mono ?_)).keep (Kept.belowB hib ?_)).keep (kf.mono ?_)).mono ?_
    · intro b hb; omega
    · intro b hb; omega
    · intro b hb; exact ⟨by show b ≠ wo.heap.size; omega, by omega⟩
    · intro b hb
      refine ⟨by omega, by rw [hsz]; omega, fun e => ?_⟩
      have := (hlto b e).2
      omega

/-- What Cut tells. -/
def CutEnd (w : World) (l : List Nd) (most : Nat) (e : Ending) (w' : World) : Prop :=
  ∃ (out : List Nd) (v : Value) (m : Nat), e = .returned (.tuple #[v, .int .i64 m]) ∧ m ≤ most ∧ OwnC w' w.heap.size w.heap.size out v ∧ szL out ≤ 420 * (most - m) ∧ Below w.heap.size w w' ∧ Kp l out

set_option maxHeartbeats 4000000 in
set_option maxRecDepth 100000 in
theorem cut_any (l : List Nd) : ∀ (S : Nat → Prop) (v : Value) (most : Nat) (w : World), Tree S w l v → (∀ b, S b → b < w.heap.size) → Fine l → most ≤ 1000 →
    Calls Try.prog 36 #[v, .int .i64 most] w (CutEnd w l most) := by
  induction l using nd_ind with
  | h l ih =>
    intro S v most w hT hS hF hmost
    have hlen := hF.len
    unfold maxLen at hlen
    obtain ⟨A, c, rfl, hc⟩ := hT.shape
    have HT := Lib.hid hT
    have HF := Lib.hid hF
    have IH := Lib.hid ih
    have HS := Lib.hid hS
    clear hT hF ih hS
    go_enter Try.func36, Try.ntmps36
    go_wp2_with fail
    go_loopw [1, 6, 7] (fun x y z wr => CutRel w l most x y z wr) (fun _ _ z _ => l.length - (intOf z).toNat)
    case atStart => exact ⟨0, most, [], rfl, rfl, by omega, Nat.le_refl _, OwnC.nil _ _ _, by rw [szL_nil]; omega, Below.refl _ _, Kp.nil _⟩
    case round =>
      obtain ⟨k, m, out, rfl, rfl, HR⟩ := hrel
      have hk := HR.le
      have hm := HR.lm
      have hown := HR.own
      have hsz := HR.sz
      have hbel := HR.bel
      have HKP := Lib.hid HR.kp
      clear HR
      have hol := szL_len out
      by_cases hlt : k < l.length ∧ 0 < m
      · obtain ⟨hlt, hm0⟩ := hlt
        obtain ⟨b, o, c', hv, _, hSb, hcell⟩ := HT.out.open_ (by omega)
        injection hv with hA _ hcc
        subst hA
        subst hcc
        obtain ⟨n, hn⟩ : ∃ n, l[k]? = some n := ⟨_, List.getElem?_eq_getElem hlt⟩
        obtain ⟨va, vk, hat⟩ := hcell k n hn
        have hbw := HS.out b hSb
        have hfn := HF.out.at_ hn
        have q0 : wr.cell? ⟨b, o + k * 5, none⟩ = some (.int .i64 n.kind) := (hbel.cell (p := ⟨b, o + k * 5, none⟩) hbw).trans hat.c0
        have q1 : wr.cell? ⟨b, o + k * 5 + 1, none⟩ = some (.string n.name) := (hbel.cell (p := ⟨b, o + k * 5 + 1, none⟩) hbw).trans hat.c1
        have q2 : wr.cell? ⟨b, o + k * 5 + 2, none⟩ = some va := (hbel.cell (p := ⟨b, o + k * 5 + 2, none⟩) hbw).trans hat.c2
        have q3 : wr.cell? ⟨b, o + k * 5 + 3, none⟩ = some (.string n.text) := (hbel.cell (p := ⟨b, o + k * 5 + 3, none⟩) hbw).trans hat.c3
        have q4 : wr.cell? ⟨b, o + k * 5 + 4, none⟩ = some vk := (hbel.cell (p := ⟨b, o + k * 5 + 4, none⟩) hbw).trans hat.c4
        have ihk := IH.out k n hn S vk (m - 1)
        have HIH := Lib.hid ihk
        have HAT := Lib.hid hat
        have HFN := Lib.hid hfn
        have hm1 : (m : Int) - 1 = ((m - 1 : Nat) : Int) := by omega
        have hm0' : (0 : Int) < (m : Int) := by omega
        have hwz := hbel.size
        have HN0 := Lib.hid hn
        clear hcell hn hat hfn ihk
        obtain ⟨A2, c2, rfl, _, _⟩ := id HAT.out.at_
        obtain ⟨A4, c4, rfl, _⟩ := HAT.out.kids.shape
        go_wp2_with fail
        refine (few3_any n.name _ HFN.out.1.nm).mono ?_
        rintro e w1 ⟨rfl, rfl⟩
        go_wp2_with fail
        refine (few3_any n.text _ HFN.out.1.tx).mono ?_
        rintro e w1 ⟨rfl, rfl⟩
        go_wp2_with fail
        refine (HIH.out _ (HAT.out.kids.keep (Kept.belowB (hbel.alloc hbel.size _) HS.out)) (fun b hb => by have := HS.out b hb; simp; omega) HFN.out.2 (by omega)).mono ?_
        rintro e w2 ⟨out2, v2, m2, rfl, hm2, hown2, hsz2, hb2, hkp2⟩
        have HKP2 := Lib.hid hkp2
        clear hkp2
        obtain ⟨A5, c5, rfl, _⟩ := OwnT.shape hown2
        have hz2 : wr.heap.size < w2.heap.size := by have := hb2.size; simp at this; omega
        have d : ∀ j, w2.cell? ⟨wr.heap.size, j, none⟩ = _ := fun j => hb2.cell (p := ⟨wr.heap.size, j, none⟩) (by simp)
        have d0 := (d 0).trans (show _ = some (.int .i64 n.kind) by simp)
        have d1 := (d 1).trans (show _ = some (.string (few3S n.name)) by simp)
        have d2 := (d 2).trans (show _ = some (.slice A2 n.attrs.length c2) by simp)
        have d3 := (d 3).trans (show _ = some (.string (few3S n.text)) by simp)
        have d4 := (d 4).trans (show _ = some (.slice A4 n.kids.length c4) by simp)
        have f : ∀ j, w2.frozen? ⟨wr.heap.size, j, none⟩ = _ := fun j => hb2.frozen (p := ⟨wr.heap.size, j, none⟩) (by simp)
        have f2 := (f 2).trans (show _ = false by simp)
        have f4 := (f 4).trans (show _ = false by simp)
        have hbw2 : Below w.heap.size w w2 := below_after (hbel.alloc hbel.size _) hb2
        have OW2 := Lib.hid (show OwnC w2 (wr.heap.size + 1) (wr.heap.size + 1) out2 (.slice A5 out2.length c5) by simpa using hown2)
        have HB2 := Lib.hid hb2
        clear d f hown2 hb2 q0 q1 q2 q3 q4
        go_wp2_with fail
        obtain ⟨W0, hW0⟩ : ∃ W0, w2.setCell ⟨wr.heap.size, 4, none⟩ (.slice A5 out2.length c5) = W0 := ⟨_, rfl⟩
        have hz0 : W0.heap.size = w2.heap.size := by rw [← hW0]; simp
        have e0 : W0.cell? ⟨wr.heap.size, 0, none⟩ = some (.int .i64 n.kind) := by rw [← hW0, World.cell?_setCell_other _ _ _ _ (by simp)]; exact d0
        have e1 : W0.cell? ⟨wr.heap.size, 1, none⟩ = some (.string (few3S n.name)) := by rw [← hW0, World.cell?_setCell_other _ _ _ _ (by simp)]; exact d1
        have e2 : W0.cell? ⟨wr.heap.size, 2, none⟩ = some (.slice A2 n.attrs.length c2) := by rw [← hW0, World.cell?_setCell_other _ _ _ _ (by simp)]; exact d2
        have e3 : W0.cell? ⟨wr.heap.size, 3, none⟩ = some (.string (few3S n.text)) := by rw [← hW0, World.cell?_setCell_other _ _ _ _ (by simp)]; exact d3
        have e4 : W0.cell? ⟨wr.heap.size, 4, none⟩ = some (.slice A5 out2.length c5) := by rw [← hW0]; exact World.cell?_setCell_same _ _ _ d4
        have ef : W0.frozen? ⟨wr.heap.size, 2, none⟩ = false := by rw [← hW0, World.frozen?_setCell]; exact f2
        have hbw0 : Below w.heap.size w W0 := by rw [← hW0]; exact hbw2.setCell hwz _
        have kp0 : Kept (fun b => wr.heap.size < b ∧ b < w2.heap.size) w2 W0 := by
          intro b hb j
          rw [← hW0]
          exact World.cell?_setCell_other _ _ _ _ (by intro e; injection e with e; omega)
        have hbo0 : Below wr.heap.size wr W0 := by
          rw [← hW0]
          exact (((Below.refl _ wr).alloc (Nat.le_refl _) _).trans (HB2.out.mono (by simp))).setCell (p := ⟨wr.heap.size, 4, none⟩) (Nat.le_refl _) _
        rw [hW0]
        have HW0 := Lib.hid hz0
        have KP0 := Lib.hid kp0
        have HBO := Lib.hid hbo0
        have HE := Lib.hid (And.intro e0 (And.intro e1 (And.intro e2 (And.intro e3 e4))))
        have HEF := Lib.hid ef
        have hz02 : wr.heap.size < W0.heap.size := by omega
        clear hW0 d0 d1 d2 d3 d4 f2 f4 hz0 kp0 hbo0 e0 e1 e2 e3 e4 ef
        obtain ⟨wo, rfl⟩ : ∃ wo : World, wo = wr := ⟨_, rfl⟩
        go_loopw [9, 10] (fun x y wi => InRel W0 n.attrs x y wi) (fun _ y _ => n.attrs.length - (intOf y).toNat)
        case atStart => exact ⟨0, [], rfl, by omega, by omega, rfl, by simp [szA], World.ownsRow_nil _ _ _ _, Below.refl _ _, by simp⟩
        case round =>
          obtain ⟨j, a, rfl, HI⟩ := hrel
          have hj := HI.le
          have hj5 := HI.l5
          have hia := HI.own
          have hib := HI.bel
          have hiz := HI.sz
          have hil := HI.ln
          have HNM := Lib.hid HI.nm
          clear HI
          have hiw := hib.size
          have keepB : ∀ i, wr.cell? ⟨wo.heap.size, i, none⟩ = W0.cell? ⟨wo.heap.size, i, none⟩ := fun i => hib.cell (p := ⟨wo.heap.size, i, none⟩) hz02
          have g2 := (keepB 2).trans HE.out.2.2.1
          have KB := Lib.hid keepB
          clear keepB
          by_cases hin : j < n.attrs.length ∧ j < 5
          · obtain ⟨hin, hin5⟩ := hin
            obtain ⟨b2, o2, c2', hv2, _, hSb2, hac⟩ := HAT.out.at_.at_ (by omega)
            injection hv2 with hA2 _ hcc2
            subst hA2
            subst hcc2
            obtain ⟨x, hx⟩ : ∃ x, n.attrs[j]? = some x := ⟨_, List.getElem?_eq_getElem hin⟩
            have hbw2' : b2 < w.heap.size := HS.out b2 hSb2
            have hbw3 : b2 < W0.heap.size := by have := hbw0.size; omega
            have k0 : wr.cell? ⟨b2, o2 + j * 2, none⟩ = some (.string x.1) := (hib.cell (p := ⟨b2, o2 + j * 2, none⟩) hbw3).trans ((hbw0.cell (p := ⟨b2, o2 + j * 2, none⟩) hbw2').trans (hac j x hx).1)
            have k1 : wr.cell? ⟨b2, o2 + j * 2 + 1, none⟩ = some (.string x.2) := (hib.cell (p := ⟨b2, o2 + j * 2 + 1, none⟩) hbw3).trans ((hbw0.cell (p := ⟨b2, o2 + j * 2 + 1, none⟩) hbw2').trans (hac j x hx).2)
            have hxs := HFN.out.1.aa x (List.mem_of_getElem? hx)
            have i1 : (j : Int) < (n.attrs.length : Int) := by omega
            have i2 : (0 : Int) ≤ (j : Int) := by omega
            have HX := Lib.hid hxs
            have HX0 := Lib.hid (List.mem_of_getElem? hx)
            clear hac hx hxs
            obtain ⟨i0, hi, hz0, hz1, hz2'⟩ := info_parts info_attr
            have HI0 := Lib.hid (And.intro hi (And.intro hz0 (And.intro hz1 hz2')))
            clear hi hz0 hz1 hz2'
            go_wp2_with fail
            have hbw4 : b2 < wr.heap.size := by omega
            have hbw5 : wo.heap.size < wr.heap.size := by omega
            have nn0 := World.new_ne wr ⟨wo.heap.size, 2, none⟩ g2
            have nn1 := World.new_ne wr ⟨b2, o2 + j * 2, none⟩ k0
            have nn2 := World.new_ne wr ⟨b2, o2 + j * 2 + 1, none⟩ k1
            go_region_held3 (fun W => W.cell? ⟨wo.heap.size, 2, none⟩ = some (.slice (some ⟨b2, o2, none⟩) n.attrs.length c2) ∧ W.cell? ⟨b2, o2 + j * 2, none⟩ = some (.string x.1) ∧ W.cell? ⟨b2, o2 + j * 2 + 1, none⟩ = some (.string x.2)) (first | exact ⟨g2, k0, k1⟩ | go_keep | (refine ⟨(far_cell hgr3 (hia.alloc _) hz02 (by simp <;> omega)).trans ?_, (far_cell hgr3 (hia.alloc _) hbw3 (by simp <;> omega)).trans ?_, (far_cell hgr3 (hia.alloc _) hbw3 (by simp <;> omega)).trans ?_⟩ <;> go_keep)) ((first | (refine step_append_lies _ rfl _ _ _ rfl W0.heap.size 40 i0 _ 2 32 Try.underlying26 HI0.out.1 HI0.out.2.1 HI0.out.2.2.1 HI0.out.2.2.2 rfl (by decide) _ j (acells a) rfl (hia.alloc _) ⟨wr.heap.size, 0, none⟩ 1 1 (acells [(few3S x.1, few3S x.2)]) rfl rfl (new_two wr _ _ _) (acells_one _) (by decide) (by unfold maxLen; omega) (by omega) (by simp; omega) (wr.heap.size + 1) (by simp) ?_; intro g cap w3 hown3 hgr3 hlies hlt3) | (go_at_call 58; refine (few3_any x.1 _ HX.out.1).mono ?_; rintro e w' ⟨rfl, rfl⟩) | (go_at_call 58; refine (few3_any x.2 _ HX.out.2).mono ?_; rintro e w' ⟨rfl, rfl⟩)))
            have hb3 : Below W0.heap.size W0 w3 := ((hib.alloc hib.size _).drew).grown hgr3 (by simp <;> omega) (fun g hg => (hia.lt g hg).1)
            have hsx := few3S_size x.1
            have hsy := few3S_size x.2
            have H3 := Lib.hid (show InAt W0 w3 (j + 1) (a ++ [(few3S x.1, few3S x.2)]) (.slice (some ⟨g, 0, none⟩) (j + 1) cap) n.attrs from
              ⟨by omega, by omega, by rw [List.length_append, hil]; rfl, by rw [szA_append]; simp only [szA]; omega, by rw [acells_append]; exact hown3, hb3, nm_snoc HNM.out HX0.out _⟩)
            clear hgr3 hlies hown3 hb3
            rename_i hheld
            clear hheld
            go_wp2_with fail
            go_roundw
            case rel => exact ⟨j + 1, _, by go_num, H3.out⟩
            case measure => simp [intOf]; omega
          · have hex : n.attrs.length ≤ j ∨ (j < n.attrs.length ∧ 5 ≤ j) := by omega
            obtain ⟨A9, c9, rfl, hc9⟩ := own_size hia
            have c0 := (KB.out 0).trans HE.out.1
            have c1 := (KB.out 1).trans HE.out.2.1
            have c2' := (KB.out 2).trans HE.out.2.2.1
            have c3 := (KB.out 3).trans HE.out.2.2.2.1
            have c4 := (KB.out 4).trans HE.out.2.2.2.2
            have cf : wr.frozen? ⟨wo.heap.size, 2, none⟩ = false := (hib.frozen (p := ⟨wo.heap.size, 2, none⟩) hz02).trans HEF.out
            obtain ⟨A6, c6, rfl, hc6⟩ := OwnT.shape hown
            have hnode := fun ob => cut_node (w := w) (wo := wo) (w2 := w2) (W0 := W0) (wr := wr) (j := j) (a := a) hwz hown hz2 HW0.out HBO.out KP0.out OW2.out hib hia hil ob
            have HND := Lib.hid hnode
            have hbf : Below w.heap.size w (wr.setCell ⟨wo.heap.size, 2, none⟩ (.slice A9 j c9)) := (hbw0.trans (hib.mono (by have := hbw0.size; omega))).setCell (p := ⟨wo.heap.size, 2, none⟩) hwz _
            have hsn := few3S_size n.name
            have hst := few3S_size n.text
            have hlo := OwnT.lt hown
            have HLO := Lib.hid hlo
            have HIA := Lib.hid hia
            have HIL := Lib.hid hil
            have hwr3 : w.heap.size ≤ wr.heap.size + 1 := by have := hbw0.size; omega
            clear hnode hlo hia hil hown
            have hn5 : ∀ i u, (ncells1 ⟨.mk n.kind (few3S n.name) a (few3S n.text) out2, .slice A9 j c9, .slice A5 out2.length c5⟩)[i]? = some u →
                ((wr.setCell ⟨wo.heap.size, 2, none⟩ (.slice A9 j c9)).alloc (.cells #[.int .i64 n.kind, .string (few3S n.name), .slice A9 j c9, .string (few3S n.text), .slice A5 out2.length c5] 28)).cell? ((⟨wr.heap.size, 0, none⟩ : Addr).add i) = some u := by
              intro i u hi
              have := new_five (wr.setCell ⟨wo.heap.size, 2, none⟩ (.slice A9 j c9)) 28 ⟨.mk n.kind (few3S n.name) a (few3S n.text) out2, .slice A9 j c9, .slice A5 out2.length c5⟩ i u hi
              rw [show (wr.setCell ⟨wo.heap.size, 2, none⟩ (.slice A9 j c9)).heap.size = wr.heap.size by simp] at this
              exact this
            have HN5 := Lib.hid hn5
            clear hn5
            rcases hex with hex | ⟨hex1, hex2⟩
            all_goals
              go_wp2_with (at_builtin; refine wpList_append_node rfl _ _ rfl w.heap.size w.heap.size out (.slice A6 out.length c6) rfl (HND.out _).1 ⟨.mk n.kind (few3S n.name) a (few3S n.text) out2, .slice A9 j c9, .slice A5 out2.length c5⟩ ⟨wr.heap.size, 0, none⟩ 1 rfl HN5.out (HND.out _).2.1 (HND.out _).2.2 (by omega) (by simpa using hwr3) ?_; intro v' w4 hown' hgrow)
              have hB4 : Below w.heap.size w w4 := (hbf.alloc hbf.size _).grown hgrow (by simpa using hwr3) (fun g hg => (HLO.out g hg).1)
              clear hgrow
              go_roundw
              case rel =>
                refine ⟨k + 1, m2, out ++ [.mk n.kind (few3S n.name) a (few3S n.text) out2], rfl, by go_num, by omega, by omega, hown', ?_, hB4, HKP.out.snoc HN0.out HKP2.out HNM.out _⟩
                rw [szL_append, szL_cons, szL_nil, szN_mk]
                omega
              case measure => simp [intOf]; omega
      · have hex : l.length ≤ k ∨ (k < l.length ∧ m = 0) := by omega
        have HOW := Lib.hid hown
        rcases hex with hex | ⟨hex, rfl⟩
        all_goals
          clear hown
          go_wp2_with fail
          go_ret2
          exact ⟨out, _, _, rfl, hm, HOW.out, hsz, hbel, HKP.out⟩

end Go.Proofs.Ytialfafjoemppaa
