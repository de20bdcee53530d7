/- Parts of the proof, in build order: TkH TkI TkJ TkK TkL TkN. -/
import Derived.Test.YthmnnalamaponaaGreatK15
import Derived.Maps.OwnSet
import Derived.Test.YthmnnalamaponaaGreatK08

/- Part TkH. -/
namespace Go.Proofs.YthmnnalamaponaaGreat
open Go.RowKit
set_option linter.unusedVariables false

def tk0 : Tk := ⟨0, ⟨#[]⟩, [], ⟨#[]⟩⟩
/-- What Tag and its parts hand back: a token or none, and how many bytes that takes. -/
def TagRet (o : Option Tk) (rest l : List UInt8) (w : World) (e : Ending) (w' : World) : Prop :=
  ∃ (va : Value) (n : Nat), e = .returned (.tuple #[tkv (o.getD tk0) va, .int .i64 n]) ∧ n ≤ l.length ∧ l.drop n = rest ∧ AttrsAt (fun b => w.heap.size ≤ b ∧ b < w'.heap.size) w' (o.getD tk0).attrs va ∧ Below w.heap.size w w'

theorem set4 {w W : World} (h : Below w.heap.size w W) (a b c d : Value) : Below w.heap.size w ((((W.setCell ⟨w.heap.size, 0, none⟩ a).setCell ⟨w.heap.size, 1, none⟩ b).setCell ⟨w.heap.size, 2, none⟩ c).setCell ⟨w.heap.size, 3, none⟩ d) :=
  (((h.setCell (Nat.le_refl _) _).setCell (Nat.le_refl _) _).setCell (Nat.le_refl _) _).setCell (Nat.le_refl _) _
theorem wrapI {x : Int} {n : Nat} (h : x = n) (hb : n ≤ 4000000) : IntKind.i64.wrap x = (n : Int) := by rw [IntWalk.i64_left, IntWalk.wrap64_in _ (by omega)]; omega
theorem wrap6 {x : Int} {n : Nat} (h : x = n) (hb : n ≤ 4000000) : wrap64 x = (n : Int) := by rw [IntWalk.wrap64_in _ (by omega)]; omega

theorem drop_drop_while {p q : UInt8 → Bool} (h : ∀ c, q c = true → p c = true) : ∀ l : List UInt8, (l.dropWhile q).dropWhile p = l.dropWhile p
  | [] => rfl
  | c :: l => by
    cases hq : q c with
    | true =>
      rw [List.dropWhile_cons, if_pos hq, List.dropWhile_cons, if_pos (h c hq)]
      exact drop_drop_while h l
    | false => rw [List.dropWhile_cons (p := q), if_neg (by rw [hq]; decide)]
theorem out_one (q : UInt8) : (fun c : UInt8 => !([q] : List UInt8).contains c) = neC q := by
  funext c
  unfold neC
  rw [List.contains_cons, List.contains_nil, Bool.or_false]
  by_cases h : c = q
  · subst h; simp
  · rw [decide_eq_false h, beq_eq_false_iff_ne.2 h]
theorem tagC_gt {c : UInt8} (h : tagC c = true) : neC 62 c = true := by
  unfold neC
  rw [Bool.not_eq_true', decide_eq_false_iff_not]
  intro e
  subst e
  cases h
theorem drop_gt (l : List UInt8) : (l.dropWhile (neC 62) = [] ∧ ¬ 62 ∈ l) ∨ ∃ k, k < l.length ∧ 62 ∈ l ∧ l.dropWhile (neC 62) = l.drop k ∧ (upTo1 l).2 = l.drop (k + 1) ∧ (l.dropWhile (neC 62)).length = l.length - k := by
  induction l with
  | nil => exact .inl ⟨rfl, by simp⟩
  | cons c l ih =>
    by_cases h : c = 62
    · subst h
      refine .inr ⟨0, by simp, by simp, rfl, rfl, rfl⟩
    · have h1 : neC 62 c = true := by unfold neC; rw [decide_eq_false h]; rfl
      unfold upTo1 at ih ⊢
      rw [List.dropWhile_cons, if_pos h1]
      rcases ih with ⟨e, hn⟩ | ⟨k, hk, hm, e1, e2, e3⟩
      · refine .inl ⟨e, ?_⟩
        rw [List.mem_cons]
        rintro (h2 | h2)
        · exact h h2.symm
        · exact hn h2
      · refine .inr ⟨k + 1, by simp; omega, by simp [hm], e1, ?_, by rw [e3, List.length_cons]; omega⟩
        exact e2
theorem slash_letter {d : UInt8} {r : List UInt8} (h : letC d = true) : slashB (d :: r) = if 62 ∈ d :: r then (some (tkE (((d :: r).takeWhile tagC).map lowB)), (upTo1 (d :: r)).2) else (none, []) := by
  rw [slashB_cons, if_neg (by intro e; subst e; cases h), if_pos h]

set_option maxHeartbeats 2000000 in
set_option maxRecDepth 100000 in
theorem tkend_any (s : ByteArray) (a0 a1 d : UInt8) (r : List UInt8) (hs : s.data.toList = a0 :: a1 :: d :: r) (hd : letC d = true) (w : World) (hm : s.size ≤ 1000000) :
    Calls Tryz.prog 130 #[.string s] w (TagRet (slashB (d :: r)).1 (slashB (d :: r)).2 s.data.toList w) := by
  have hsz : s.size = (d :: r).length + 2 := by rw [str_list, hs]; rfl
  have hex : (s.extract 2 s.size).data.toList = d :: r := by rw [drop_extract, hs]; rfl
  have H1 := Lib.hid (fun W => part_any (s.extract 2 s.size) 139 #[] tagZ tagC false W (asks_named W) bytely_named (by rw [ByteArray.size_extract]; omega))
  have HSL := Lib.hid (slash_letter (r := r) hd)
  have HS := Lib.hid hs
  obtain ⟨L, hL⟩ : ∃ L, d :: r = L := ⟨_, rfl⟩
  rw [hL] at hsz hex HSL ⊢
  have HSZ := Lib.hid hsz
  have HEX := Lib.hid hex
  have HDR := Lib.hid (show s.data.toList = a0 :: a1 :: L by rw [hs, hL])
  have h2 : (2 : Int) ≤ (s.size : Int) := by omega
  clear hsz hex hs hd hL
  go_enter Tryz.func130, Tryz.ntmps130
  go_wp2_with fail
  refine (H1.out _).mono ?_
  rintro e w1 ⟨a, b, rfl, ha, hb, hb1⟩
  rw [HEX.out] at ha hb
  have HA := Lib.hid ha
  have HB := Lib.hid hb
  have hbx1 := box_on (box_here w #[.int .i64 0, .string ⟨#[]⟩, .slice none 0 0, .string ⟨#[]⟩] 129) hb1
  have hB1 := below_after (below_new w _) hb1
  have haz : a.size ≤ 1000000 := by rw [str_list, ha]; have := (List.takeWhile_sublist (p := tagC) (l := L)).length_le; have := HSZ.out; omega
  have hbz : b.size ≤ 1000000 := by rw [str_list, hb]; have := (List.dropWhile_sublist (p := tagC) (l := L)).length_le; have := HSZ.out; omega
  clear ha hb hb1
  go_wp2_with fail
  refine (outside_any _ _).mono ?_
  rintro e w2 ⟨bb, rfl, hbl, hbc, hb2⟩
  have hbx2 := box_on hbx1 hb2
  have hB2 := below_after hB1 hb2
  have H2 := Lib.hid (part_outside b ⟨#[62]⟩ bb w2 hbl hbc rfl (by decide) hbz)
  clear hbx1 hB1 hb2 hbl hbc
  go_wp2_with fail
  refine H2.out.mono ?_
  rintro e w3 ⟨c, b2, rfl, _, h2b, hb3⟩
  rw [out_one, HB.out, drop_drop_while (fun c h => tagC_gt h)] at h2b
  have hbx3 := box_on hbx2 hb3
  have hB3 := below_after hB2 hb3
  have hbe := eqs b2 []
  rw [h2b] at hbe
  have hbsz : b2.size = (L.dropWhile (neC 62)).length := by rw [str_list, h2b]
  have HBX := Lib.hid hbx3
  have HB3 := Lib.hid hB3
  clear hbx2 hB2 hb3 h2b hbx3 hB3
  rcases drop_gt L with ⟨e1, hn⟩ | ⟨k, hk, hmem, e1, e2, e3⟩
  · rw [e1] at hbe hbsz
    have B0 : (b2.toList == []) = true := by rw [hbe]; rfl
    have d0 : w3.cell? ⟨w.heap.size, 0, none⟩ = some (.int .i64 0) := cell_at HBX.out 0
    have d1 : w3.cell? ⟨w.heap.size, 1, none⟩ = some (.string ⟨#[]⟩) := cell_at HBX.out 1
    have d2 : w3.cell? ⟨w.heap.size, 2, none⟩ = some (.slice none 0 0) := cell_at HBX.out 2
    have d3 : w3.cell? ⟨w.heap.size, 3, none⟩ = some (.string ⟨#[]⟩) := cell_at HBX.out 3
    have f0 := froz_at HBX.out 0
    have f1 := froz_at HBX.out 1
    have f2 := froz_at HBX.out 2
    have f3 := froz_at HBX.out 3
    have HN := Lib.hid hn
    clear hbe hbsz e1 hn
    go_wp2_with fail
    refine bodyPost_ret (v := .tuple #[.agg #[.int .i64 0, .string ⟨#[]⟩, .slice none 0 0, .string ⟨#[]⟩], .int .i64 s.size]) ?_ rfl ?_
    · simp [results, Tryz.f130, go_sem, d0, d1, d2, d3]
    · rw [show slashB L = (none, []) by rw [HSL.out, if_neg HN.out]]
      exact ⟨.slice none 0 0, s.size, rfl, by rw [← str_list]; exact Nat.le_refl _, List.drop_eq_nil_of_le (by rw [← str_list]; exact Nat.le_refl _), AttrsAt.nil _ _, set4 HB3.out _ _ _ _⟩
  · rw [e1] at hbe
    have B0 : (b2.toList == []) = false := by
      rw [hbe, decide_eq_false_iff_not]
      intro e
      have := congrArg List.length e
      rw [List.length_drop] at this
      simp at this
      omega
    have HF := Lib.hid (fun W => fold_any a W (by unfold maxLen; omega))
    have HE1 := Lib.hid e1
    have HE2 := Lib.hid e2
    have HMM := Lib.hid hmem
    have hb2z : b2.size = L.length - k := by rw [hbsz, e3]
    have hs2 : b2.size ≤ s.size := by have := HSZ.out; omega
    obtain ⟨m, hm1⟩ : ∃ m, s.size - b2.size = m := ⟨_, rfl⟩
    have hw1 : IntKind.i64.wrap ((s.size : Int) - (b2.size : Int)) = (m : Int) := wrapI (by omega) (by omega)
    have hw2 : wrap64 ((s.size : Int) - (b2.size : Int)) = (m : Int) := wrap6 (by omega) (by omega)
    have hw3 : IntKind.i64.wrap ((m : Int) + 1) = ((m + 1 : Nat) : Int) := wrapI (by omega) (by omega)
    have HM := Lib.hid (show m + 1 = k + 3 by have := HSZ.out; omega)
    clear hbe hbsz e1 e2 e3 hmem hb2z hm1
    go_wp2_with fail
    refine (HF.out _).mono ?_
    rintro e w4 ⟨rfl, hb4⟩
    have hbx4 := box_on HBX.out hb4
    have hB4 := below_after HB3.out hb4
    have d0 : w4.cell? ⟨w.heap.size, 0, none⟩ = some (.int .i64 0) := cell_at hbx4 0
    have d1 : w4.cell? ⟨w.heap.size, 1, none⟩ = some (.string ⟨#[]⟩) := cell_at hbx4 1
    have d2 : w4.cell? ⟨w.heap.size, 2, none⟩ = some (.slice none 0 0) := cell_at hbx4 2
    have d3 : w4.cell? ⟨w.heap.size, 3, none⟩ = some (.string ⟨#[]⟩) := cell_at hbx4 3
    have f0 := froz_at hbx4 0
    have f1 := froz_at hbx4 1
    have f2 := froz_at hbx4 2
    have f3 := froz_at hbx4 3
    have HB4 := Lib.hid hB4
    clear hbx4 hb4 hB4
    go_wp2_with fail
    refine bodyPost_ret (v := .tuple #[.agg #[.int .i64 2, .string ⟨(a.data.toList.map lowB).toArray⟩, .slice none 0 0, .string ⟨#[]⟩], .int .i64 ((m : Int) + 1)]) ?_ rfl ?_
    · simp [results, Tryz.f130, go_sem, d0, d1, d2, d3]
    · rw [show slashB L = (some (tkE ((L.takeWhile tagC).map lowB)), (upTo1 L).2) by rw [HSL.out, if_pos HMM.out], ← HA.out]
      refine ⟨.slice none 0 0, m + 1, rfl, ?_, ?_, AttrsAt.nil _ _, set4 HB4.out _ _ _ _⟩
      · rw [← str_list, HM.out, HSZ.out]
        omega
      · rw [HM.out, HDR.out, HE2.out]
        rfl

end Go.Proofs.YthmnnalamaponaaGreat

/- Part TkI. -/
namespace Go.Proofs.YthmnnalamaponaaGreat
open Go.RowKit
set_option linter.unusedVariables false

theorem val_set : (fun c : UInt8 => !([9, 10, 12, 32, 62] : List UInt8).contains c) = valC := by
  funext c
  have e : ∀ x y : UInt8, (x == y) = decide (x.toNat = y.toNat) := fun x y => by rw [Bool.eq_iff_iff, beq_iff_eq, decide_eq_true_eq, UInt8.toNat_inj]
  simp only [List.contains_cons, List.contains_nil, valC, blC, e, Bool.or_false, Bool.or_assoc]
  rfl
theorem trim_quote (q : UInt8) (r : List UInt8) : Lib.trimPrefix (r.dropWhile (neC q)) [q] = (r.dropWhile (neC q)).drop 1 := by
  induction r with
  | nil => rfl
  | cons c r ih =>
    by_cases h : c = q
    · subst h
      have : neC c c = false := by simp [neC]
      rw [List.dropWhile_cons, if_neg (by rw [this]; decide)]
      unfold Lib.trimPrefix Lib.hasPrefix
      rw [if_pos (by simp [List.isPrefixOf])]
      rfl
    · have : neC q c = true := by simp [neC, h]
      rw [List.dropWhile_cons, if_pos this]
      exact ih
theorem drop_quote {q : UInt8} : ∀ {r : List UInt8}, ¬ q ∈ r → r.dropWhile (neC q) = []
  | [], _ => rfl
  | c :: r, h => by
    have h1 : ¬ c = q := fun e => h (by simp [e])
    have : neC q c = true := by simp [neC, h1]
    rw [List.dropWhile_cons, if_pos this]
    exact drop_quote fun h2 => h (by simp [h2])

theorem drew_below {w W : World} (h : Below w.drew.heap.size w.drew W) : Below w.heap.size w W := (show Below w.heap.size w w.drew from (Below.refl _ w).drew).trans h

/-- What value hands back. -/
def ValRet (l : List UInt8) (w : World) (e : Ending) (w' : World) : Prop :=
  ∃ a b : ByteArray, e = .returned (.tuple #[.string a, .string b]) ∧ b.data.toList = ((valOf l).map (·.2)).getD [] ∧ (∀ x, valOf l = some x → a.data.toList = x.1) ∧ a.size ≤ l.length ∧ Below w.heap.size w w'

theorem takeW_len (p : UInt8 → Bool) (l : List UInt8) : (l.takeWhile p).length ≤ l.length := (List.takeWhile_sublist p).length_le
theorem dropW_len (p : UInt8 → Bool) (l : List UInt8) : (l.dropWhile p).length ≤ l.length := (List.dropWhile_sublist p).length_le

set_option maxHeartbeats 2000000 in
set_option maxRecDepth 100000 in
theorem value_any (s : ByteArray) (w : World) (hm : s.size ≤ 1000000) : Calls Tryz.prog 153 #[.string s] w (ValRet s.data.toList w) := by
  obtain ⟨l, hl⟩ : ∃ l, s.data.toList = l := ⟨_, rfl⟩
  have hsz : s.size = l.length := by rw [← hl]; simp
  have he := eqs s []
  have hat := starts_at0 hl
  rw [hl] at he ⊢
  have HSL := Lib.hid hl
  have plain : ∀ w1 : World, ∀ b, b < w1.heap.size → w1.cell? ⟨b, 0, none⟩ = some (.string ⟨#[9, 10, 12, 32, 62]⟩) → Calls Tryz.prog 138 #[.string s, .func (.func 154) #[] #[.pointer (some ⟨b, 0, none⟩)]] w1 (Parted valC s w1) := fun w1 b hb hc => by
    rw [← val_set]
    exact part_outside s ⟨#[9, 10, 12, 32, 62]⟩ b w1 hb hc rfl (by decide) hm
  have HP := Lib.hid plain
  cases l with
  | nil =>
    have B0 : (s.toList == []) = true := by rw [he]; rfl
    clear hl hsz he hat plain
    go_enter Tryz.func153, Tryz.ntmps153
    go_wp2_with fail
    refine (outside_any _ _).mono ?_
    rintro e w1 ⟨b, rfl, hbl, hbc, hb1⟩
    go_wp2_with fail
    refine (HP.out w1 b hbl hbc).mono ?_
    rintro e w2 ⟨x, y, rfl, hx, hy, hb2⟩
    go_wp2_with fail
    go_ret2
    rw [HSL.out] at hx hy
    exact ⟨x, y, rfl, hy, fun z hz => by injection hz with hz; subst hz; exact hx, by rw [str_list, hx]; simp, below_after hb1 hb2⟩
  | cons q r =>
    have hpos : 0 < s.size := by rw [hsz]; simp
    have g0 : ((s[0]'hpos).toNat : Int) = q.toNat := by
      have e := hat 0 hpos
      injection e with e
      rw [e]
    have B0 : (s.toList == []) = false := by rw [he]; rfl
    have hv : valOf (q :: r) = if q = 34 ∨ q = 39 then (if q ∈ r then some (r.takeWhile (neC q), (r.dropWhile (neC q)).drop 1) else none) else some ((q :: r).takeWhile valC, (q :: r).dropWhile valC) := rfl
    have hrl : s.size = r.length + 1 := by rw [hsz]; simp
    have HRL := Lib.hid hrl
    have e34 : (q = 34 ∨ q = 39) ↔ ((q.toNat : Int) = 34 ∨ (q.toNat : Int) = 39) := by
      have e1 : q = 34 ↔ q.toNat = 34 := by rw [← UInt8.toNat_inj]; rfl
      have e2 : q = 39 ↔ q.toNat = 39 := by rw [← UInt8.toNat_inj]; rfl
      rw [e1, e2]
      omega
    clear hl hsz he hat plain hrl
    by_cases hq : q = 34 ∨ q = 39
    · rw [if_pos hq] at hv
      have hq2 := e34.1 hq
      obtain ⟨qs, hqs⟩ : ∃ qs, s.extract 0 1 = qs := ⟨_, rfl⟩
      have h1 : qs.data.toList = [q] := by
        rw [← hqs, take_extract, HSL.out]
        rfl
      have hex : (s.extract 1 s.size).data.toList = r := by rw [drop_extract, HSL.out]; rfl
      have hql : q.toNat < 128 := by omega
      have h2 := fun (w1 : World) (b : Nat) (hb : b < w1.heap.size) (hc : w1.cell? ⟨b, 0, none⟩ = some (.string qs)) => part_outside (s.extract 1 s.size) qs b w1 hb hc (by rw [h1]; show (decide (q.toNat < 128) && true) = true; rw [decide_eq_true hql]; rfl) (by rw [str_list, h1]; exact (by decide : 1 ≤ 1000000)) (by rw [ByteArray.size_extract]; omega)
      rw [h1, out_one] at h2
      have H2 := Lib.hid h2
      have HT := Lib.hid (fun (x : ByteArray) (W : World) => Tryz.strings_TrimPrefix x qs W)
      rw [h1] at HT
      have HEX := Lib.hid hex
      have HV := Lib.hid hv
      have h1' : (1 : Int) ≤ (s.size : Int) := by omega
      generalize (q.toNat : Int) = y at g0 hq2
      have C : (y != 34 && y != 39) = false := by
        rcases hq2 with h | h <;> subst h <;> rfl
      have HQS := Lib.hid hqs
      clear e34 hq hex hv hql h1 h2 hqs
      cases B1 : (y != 34)
      case' true =>
        have B2 : (y != 39) = false := by rw [B1, Bool.true_and] at C; exact C
      all_goals
        clear C hq2
        go_enter Tryz.func153, Tryz.ntmps153
        go_wp2_with fail
        rw [HQS.out]
        have mixed : Tryz.prog.follows Departure.mixedOrders = true := by kernel_rfl
        go_region_with (first
          | (go_at_call 143; refine (outside_any _ _).mono ?_; rintro e w1 ⟨b, rfl, hbl, hbc, hb1⟩)
          | (go_at_call 138; refine (H2.out w1 b hbl hbc).mono ?_; rintro e w2 ⟨x, z, rfl, hx, hz, hb2⟩))
        have hB2 := below_after hb1 hb2
        rw [HEX.out] at hx hz
        have HX := Lib.hid hx
        have HZ := Lib.hid hz
        clear hx hz hb1 hb2 hbl hbc
        go_wp2_with fail
        refine (HT.out z _).mono ?_
        rintro e w3 ⟨rfl, rfl⟩
        go_wp2_with fail
        go_ret2
        refine ⟨x, ⟨(Lib.trimPrefix z.data.toList [q]).toArray⟩, rfl, ?_, fun u hu => ?_, by rw [str_list, HX.out]; have := takeW_len (neC q) r; simp only [List.length_cons]; omega, drew_below hB2⟩
        · show Lib.trimPrefix z.data.toList [q] = _
          rw [HZ.out, trim_quote, HV.out]
          by_cases hm : q ∈ r
          · rw [if_pos hm]; rfl
          · rw [if_neg hm, drop_quote hm]; rfl
        · rw [HV.out] at hu
          by_cases hm : q ∈ r
          · rw [if_pos hm] at hu
            injection hu with hu
            subst hu
            exact HX.out
          · rw [if_neg hm] at hu
            cases hu
    · rw [if_neg hq] at hv
      have hq2 : ¬ ((q.toNat : Int) = 34 ∨ (q.toNat : Int) = 39) := fun h => hq (e34.2 h)
      have HV := Lib.hid hv
      generalize (q.toNat : Int) = y at g0 hq2
      have B1 : (y != 34) = true := by rw [bne_iff_ne]; exact fun h => hq2 (.inl h)
      have B2 : (y != 39) = true := by rw [bne_iff_ne]; exact fun h => hq2 (.inr h)
      clear e34 hq hv hq2
      go_enter Tryz.func153, Tryz.ntmps153
      go_wp2_with fail
      refine (outside_any _ _).mono ?_
      rintro e w1 ⟨b, rfl, hbl, hbc, hb1⟩
      go_wp2_with fail
      refine (HP.out w1 b hbl hbc).mono ?_
      rintro e w2 ⟨x, y, rfl, hx, hy, hb2⟩
      go_wp2_with fail
      go_ret2
      rw [HSL.out] at hx hy
      refine ⟨x, y, rfl, by rw [HV.out]; exact hy, fun z hz => ?_, by rw [str_list, hx]; exact takeW_len _ _, below_after hb1 hb2⟩
      rw [HV.out] at hz
      injection hz with hz
      subst hz
      exact hx

end Go.Proofs.YthmnnalamaponaaGreat

/- Part TkJ. -/
namespace Go.Proofs.YthmnnalamaponaaGreat
open Go.RowKit
set_option linter.unusedVariables false

theorem u8beq (x y : UInt8) : (x == y) = decide (x.toNat = y.toNat) := by rw [Bool.eq_iff_iff, beq_iff_eq, decide_eq_true_eq, UInt8.toNat_inj]
theorem go_set : (fun c : UInt8 => !([9, 10, 12, 32, 47, 62, 61] : List UInt8).contains c) = goC := by
  funext c
  simp only [List.contains_cons, List.contains_nil, goC, stopC, blC, u8beq, Bool.or_false, Bool.or_assoc]
  rfl
theorem bl_set : (fun c : UInt8 => ([9, 10, 12, 32] : List UInt8).contains c) = blC := by
  funext c
  simp only [List.contains_cons, List.contains_nil, blC, u8beq, Bool.or_false, Bool.or_assoc]
  rfl

/-- What attribute hands back. -/
def AttRet (l : List UInt8) (w : World) (e : Ending) (w' : World) : Prop :=
  ∃ nm v b : ByteArray, e = .returned (.tuple #[.agg #[.string nm, .string v], .string b]) ∧ b.data.toList = ((attOf l).map (·.2)).getD [] ∧ (∀ x, attOf l = some x → (nm, v) = x.1) ∧ nm.size ≤ l.length ∧ Below w.heap.size w w'

set_option maxHeartbeats 4000000 in
set_option maxRecDepth 100000 in
theorem tkattr_any (s : ByteArray) (w : World) (hm : s.size ≤ 1000000) : Calls Tryz.prog 142 #[.string s] w (AttRet s.data.toList w) := by
  obtain ⟨l, hl⟩ : ∃ l, s.data.toList = l := ⟨_, rfl⟩
  have hsz : s.size = l.length := by rw [← hl]; simp
  have HSL := Lib.hid hl
  have HSZ := Lib.hid hsz
  rw [hl]
  clear hl hsz
  have h1 := fun (w1 : World) (b : Nat) (hb : b < w1.heap.size) (hc : w1.cell? ⟨b, 0, none⟩ = some (.string ⟨#[9, 10, 12, 32, 47, 62, 61]⟩)) => part_outside s ⟨#[9, 10, 12, 32, 47, 62, 61]⟩ b w1 hb hc rfl (by decide) hm
  have h2 := fun (x : ByteArray) (hx : x.size ≤ 1000000) (w1 : World) (b : Nat) (hb : b < w1.heap.size) (hc : w1.cell? ⟨b, 0, none⟩ = some (.string ⟨#[9, 10, 12, 32]⟩)) => part_among x ⟨#[9, 10, 12, 32]⟩ b w1 hb hc rfl (by decide) hx
  simp only [go_set] at h1
  simp only [bl_set] at h2
  have H1 := Lib.hid h1
  have H2 := Lib.hid h2
  clear h1 h2
  go_enter Tryz.func142, Tryz.ntmps142
  go_wp2_with fail
  refine (outside_any _ _).mono ?_
  rintro e w1 ⟨b1, rfl, hbl, hbc, hb1⟩
  have h3 := H1.out w1 b1 hbl hbc
  have hbx1 := box_on (box_here w #[.string ⟨#[]⟩, .string ⟨#[]⟩] 39) hb1
  have hB1 := below_after (below_new w _) hb1
  have H3 := Lib.hid h3
  clear h3 hb1 hbl hbc H1
  go_wp2_with fail
  refine H3.out.mono ?_
  rintro e w2 ⟨nm0, left1, rfl, hn0, hl1, hb2⟩
  rw [HSL.out] at hn0 hl1
  have hbx2 := box_on hbx1 hb2
  have hB2 := below_after hB1 hb2
  have hnz : nm0.size ≤ l.length := by rw [str_list, hn0]; exact takeW_len _ _
  have hlz : left1.size ≤ l.length := by rw [str_list, hl1]; exact dropW_len _ _
  have hls : l.length ≤ 1000000 := by rw [← HSZ.out]; exact hm
  have HN0 := Lib.hid hn0
  have HL1 := Lib.hid hl1
  clear hn0 hl1 hb2 hbx1 hB1 H3
  go_wp2_with fail
  refine (fold_any nm0 _ (by unfold maxLen; omega)).mono ?_
  rintro e w3 ⟨rfl, hb3⟩
  rw [HN0.out]
  obtain ⟨nm, hnm, hnml, hnmz⟩ := str_of ((l.takeWhile goC).map lowB)
  rw [hnm]
  have hbx3 := box_on hbx2 hb3
  have hB3 := below_after hB2 hb3
  have hnmz2 : nm.size ≤ l.length := by rw [hnmz, List.length_map]; exact takeW_len _ _
  have HNM := Lib.hid (show nm = tB (nameAt l) from hnm.symm)
  clear hnm hnml hnmz hbx2 hB2 hb3
  go_wp2_with fail
  refine (among_any _ _).mono ?_
  rintro e w4 ⟨b2, rfl, hbl, hbc, hb4⟩
  have hnw : w.heap.size < w3.heap.size := (Array.getElem?_eq_some_iff.1 hbx3).1
  have hax4 := box_on (box_here w3 #[.string nm, .string ⟨#[]⟩] 39) hb4
  have hbx4 := box_on (box_on hbx3 (below_new w3 (.cells #[.string nm, .string ⟨#[]⟩] 39))) hb4
  have hB4 := below_after (below_after hB3 (below_new w3 _)) hb4
  have H3 := Lib.hid (H2.out left1 (by omega) w4 b2 hbl hbc)
  clear hbx3 hB3 hb4 hbl hbc
  go_wp2_with fail
  refine H3.out.mono ?_
  rintro e w5 ⟨_, left2, rfl, _, hl2, hb5⟩
  rw [HL1.out] at hl2
  have hax5 := box_on hax4 hb5
  have hbx5 := box_on hbx4 hb5
  have hB5 := below_after hB4 hb5
  have hl2z : left2.size ≤ l.length := by rw [str_list, hl2]; exact Nat.le_trans (dropW_len _ _) (dropW_len _ _)
  have hpre := Tryz.strings_HasPrefix left2 ⟨#[61]⟩ w5
  rw [hl2] at hpre
  have HBH := Lib.hid (show left2.data.toList = behind l from hl2)
  have hbh : (l.dropWhile goC).dropWhile blC = behind l := rfl
  rw [hbh] at hpre
  have HAX := Lib.hid hax5
  have HBX := Lib.hid hbx5
  have HB5 := Lib.hid hB5
  clear hl2 hbx4 hax4 hB4 hb5 H3 hbh hax5 hbx5 hB5
  have d0 : w5.cell? ⟨w.heap.size, 0, none⟩ = some (.string ⟨#[]⟩) := cell_at HBX.out 0
  have d1 : w5.cell? ⟨w.heap.size, 1, none⟩ = some (.string ⟨#[]⟩) := cell_at HBX.out 1
  have a0 : w5.cell? ⟨w3.heap.size, 0, none⟩ = some (.string nm) := cell_at HAX.out 0
  have a1 : w5.cell? ⟨w3.heap.size, 1, none⟩ = some (.string ⟨#[]⟩) := cell_at HAX.out 1
  have f0 := froz_at HBX.out 0
  have f1 := froz_at HBX.out 1
  have fa1 := froz_at HAX.out 1
  by_cases hq : ∃ r, behind l = 61 :: r
  · obtain ⟨r, hr⟩ := hq
    rw [hr] at hpre
    have hpre2 : Calls Tryz.prog 77 #[.string left2, .string ⟨#[61]⟩] w5 fun e w' => e = .returned (.bool true) ∧ w' = w5 := hpre
    have HPRE := Lib.hid hpre2
    have HR := Lib.hid hr
    have hex : (left2.extract 1 left2.size).data.toList = r := by rw [drop_extract, HBH.out, hr]; rfl
    have hlen : left2.size = r.length + 1 := by rw [str_list, HBH.out, hr]; rfl
    have h1' : (1 : Int) ≤ (left2.size : Int) := by omega
    have HEX := Lib.hid hex
    have H4 := Lib.hid (H2.out (left2.extract 1 left2.size) (by rw [ByteArray.size_extract]; omega))
    have hrz : r.length ≤ 1000000 := by omega
    clear hpre hpre2 hr hex hlen d0 d1 a0 a1 f0 f1 fa1
    go_wp2_with fail
    refine HPRE.out.mono ?_
    rintro e w6 ⟨rfl, rfl⟩
    go_wp2_with fail
    have mixed : Tryz.prog.follows Departure.mixedOrders = true := by kernel_rfl
    go_region_with (first
      | (go_at_call 141; refine (among_any _ _).mono ?_; rintro e w7 ⟨b3, rfl, hbl3, hbc3, hb7⟩)
      | (go_at_call 138; refine (H4.out w7 b3 hbl3 hbc3).mono ?_; rintro e w8 ⟨x, left3, rfl, hx, hl3, hb8⟩))
    have hb8' := drew_below (below_after hb7 hb8)
    rw [HEX.out] at hl3
    have HL3 := Lib.hid hl3
    have hax8 := box_on HAX.out hb8'
    have hbx8 := box_on HBX.out hb8'
    have hB8 := below_after HB5.out hb8'
    have hl3z : left3.size ≤ 1000000 := by rw [str_list, hl3]; exact Nat.le_trans (dropW_len _ _) hrz
    clear hl3 hx hb7 hb8 hbl3 hbc3 hb8'
    go_wp2_with fail
    refine (value_any left3 _ hl3z).mono ?_
    rintro e w9 ⟨tx, left4, rfl, hl4, htx, htz, hb9⟩
    rw [HL3.out] at hl4 htx htz
    have hax9 := box_on hax8 hb9
    have hbx9 := box_on hbx8 hb9
    have hB9 := below_after hB8 hb9
    have htz2 : tx.size ≤ 1000000 := Nat.le_trans htz (Nat.le_trans (dropW_len _ _) hrz)
    have HL4 := Lib.hid hl4
    have HTX := Lib.hid htx
    clear hl4 htx htz hb9 hax8 hbx8 hB8
    go_wp2_with fail
    refine (decode_any tx _ htz2).mono ?_
    rintro e w10 ⟨rfl, hb10⟩
    have hax10 := box_on hax9 hb10
    have hbx10 := box_on hbx9 hb10
    have HB10 := Lib.hid (below_after hB9 hb10)
    have d0 : w10.cell? ⟨w.heap.size, 0, none⟩ = some (.string ⟨#[]⟩) := cell_at hbx10 0
    have d1 : w10.cell? ⟨w.heap.size, 1, none⟩ = some (.string ⟨#[]⟩) := cell_at hbx10 1
    have a0 : w10.cell? ⟨w3.heap.size, 0, none⟩ = some (.string nm) := cell_at hax10 0
    have a1 : w10.cell? ⟨w3.heap.size, 1, none⟩ = some (.string ⟨#[]⟩) := cell_at hax10 1
    have f0 := froz_at hbx10 0
    have f1 := froz_at hbx10 1
    have fa1 := froz_at hax10 1
    clear hax9 hbx9 hB9 hb10 hax10 hbx10
    go_wp2_with fail
    have hne : w3.heap.size ≠ w.heap.size := Nat.ne_of_gt hnw

    refine bodyPost_ret (v := .tuple #[.agg #[.string nm, .string ⟨(decB tx.data.toList).toArray⟩], .string left4]) ?_ rfl ?_
    · simp [results, Tryz.f142, go_sem, d0, d1]
    · refine ⟨nm, ⟨(decB tx.data.toList).toArray⟩, left4, rfl, ?_, fun y hy => ?_, hnmz2, ((HB10.out.setCell (Nat.le_of_lt hnw) _).setCell (Nat.le_refl _) _).setCell (Nat.le_refl _) _⟩
      · rw [attOf_eq HR.out, HL4.out]
        cases valOf (r.dropWhile blC) <;> rfl
      · rw [attOf_eq HR.out] at hy
        cases hv : valOf (r.dropWhile blC) with
        | none => rw [hv] at hy; cases hy
        | some z =>
          rw [hv] at hy
          injection hy with hy
          subst hy
          rw [HTX.out z hv, ← HNM.out]
          rfl
  · have hpf : Lib.hasPrefix (behind l) [61] = false := by
      cases hb : behind l with
      | nil => rfl
      | cons c r =>
        have hc : c ≠ 61 := fun e => hq ⟨r, by rw [hb, e]⟩
        show ((61 == c) && _) = false
        rw [beq_eq_false_iff_ne.2 (fun e => hc e.symm)]
        rfl
    have hpre2 : Calls Tryz.prog 77 #[.string left2, .string ⟨#[61]⟩] w5 fun e w' => e = .returned (.bool false) ∧ w' = w5 := by rw [← hpf]; exact hpre
    have HPRE := Lib.hid hpre2
    have HA := Lib.hid (show attOf l = some ((tB (nameAt l), tB []), behind l) by
      cases hb : behind l with
      | nil => exact attOf_nil hb
      | cons c r => exact attOf_other hb fun e => hq ⟨r, by rw [hb, e]⟩)
    clear hpre hpre2 hpf hq
    go_wp2_with fail
    refine HPRE.out.mono ?_
    rintro e w6 ⟨rfl, rfl⟩
    go_wp2_with fail
    refine bodyPost_ret (v := .tuple #[.agg #[.string nm, .string ⟨#[]⟩], .string left2]) ?_ rfl ?_
    · simp [results, Tryz.f142, go_sem, d0, d1]
    · refine ⟨nm, ⟨#[]⟩, left2, rfl, by rw [HA.out, HBH.out]; rfl, fun y hy => ?_, hnmz2, (HB5.out.setCell (Nat.le_refl _) _).setCell (Nat.le_refl _) _⟩
      rw [HA.out] at hy
      injection hy with hy
      subst hy
      rw [← HNM.out]
      rfl

end Go.Proofs.YthmnnalamaponaaGreat

/- Part TkK. -/
namespace Go.Proofs.YthmnnalamaponaaGreat
open Go.RowKit Go.Maps
set_option linter.unusedVariables false

theorem zeroUnitK (w : World) : (zeroValue 82).run Tryz.prog w = .ok (.agg #[]) w := by kernel_rfl

/-- What a datum says of texts. -/
def SView (D : DataW Unit) (f : List UInt8 → Bool) : Prop := IsMap D ∧ ∀ l, Maps.has D (.string l) = f l
theorem SView.empty : SView (.map []) (fun _ => false) := ⟨isMap_empty, fun l => rfl⟩
theorem SView.put {D : DataW Unit} {f : List UInt8 → Bool} (h : SView D f) (k : List UInt8) : SView (D.put (.string k) (.agg [])) (fun l => decide (l = k) || f l) := by
  refine ⟨h.1.put _ _, fun l => ?_⟩
  by_cases e : l = k
  · subst e
    rw [has_put_same h.1 (show WideAt.IsKeyLit (.string l) from trivial)]
    simp
  · have hne : (Lit.string l) ≠ .string k := by intro h; injection h; exact e ‹_›
    rw [has_put_other hne, h.2 l]
    show f l = (decide (l = k) || f l)
    rw [decide_eq_false e, Bool.false_or]

/-- Block b is a set of at most n texts, of just those that f tells. -/
def Seen (w : World) (b n : Nat) (f : List UInt8 → Bool) : Prop := ∃ D : DataW Unit, w.ownsMap Tryz.prog 9 unitElem b n D ∧ SView D f

theorem Seen.lt {w : World} {b n : Nat} {f : List UInt8 → Bool} (h : Seen w b n f) : b < w.heap.size := by
  obtain ⟨D, h, _⟩ := h
  exact h.lt
theorem Seen.kept {w w' : World} {b n : Nat} {f : List UInt8 → Bool} (h : Seen w b n f) (hb : w'.heap[b]? = w.heap[b]?) : Seen w' b n f := by
  obtain ⟨D, ⟨es, clock, hh, F, hs, hD⟩, hv⟩ := h
  exact ⟨D, ⟨es, clock, hb.trans hh, F, hs, hD⟩, hv⟩
theorem Seen.below {w w' : World} {b n : Nat} {f : List UInt8 → Bool} (h : Seen w b n f) (hb : Below w.heap.size w w') : Seen w' b n f := h.kept (hb.block b h.lt)
theorem Seen.made (w : World) : Seen (w.alloc (.map #[] 0)) w.heap.size 0 (fun _ => false) := ⟨_, World.ownsMap_made _ _ _ _, SView.empty⟩
theorem Seen.congr {w : World} {b n : Nat} {f g : List UInt8 → Bool} (h : Seen w b n f) (e : ∀ l, f l = g l) : Seen w b n g := by
  have : f = g := funext e
  subst this
  exact h

set_option maxRecDepth 100000 in
/-- '_, is := seen[s]'. -/
theorem Seen.look {w : World} {b n : Nat} {f : List UInt8 → Bool} (h : Seen w b n f) (k : ByteArray) (hk : k.size ≤ maxLen) :
    (Instr.lookup 81 (.map (some b)) (.string k) true).run Tryz.prog w = .ok (.tuple #[.agg #[], .bool (f k.data.toList)]) w := by
  obtain ⟨D, hown, hv⟩ := h
  obtain ⟨v, ps, hrun, hv2⟩ := hown.look_ok strKeyed Tryz.underlying81 (zeroUnitK w) unitElem_mk (Go.WideMaps.keyOf_string_mk Tryz.underlying9 hk)
  obtain ⟨rfl, _⟩ := unitElem_inv hv2
  rw [hrun, hv.2]

set_option maxRecDepth 100000 in
/-- 'seen[s] = struct{}{}'. -/
theorem Seen.store {w : World} {b n : Nat} {f : List UInt8 → Bool} (h : Seen w b n f) (hn : n ≤ 2000000) (k : ByteArray) (hk : k.size ≤ maxLen) :
    ∃ w', (Instr.mapUpdate 81 (.map (some b)) (.string k) (.agg #[])).run Tryz.prog w = .ok () w' ∧ Seen w' b (n + 1) (fun l => decide (l = k.data.toList) || f l) ∧ w.grownBy w' (some b) := by
  obtain ⟨D, hown, hv⟩ := h
  obtain ⟨w', hrun, r1, r2⟩ := hown.update strKeyed Tryz.underlying81 (by unfold maxLen; omega) (Go.WideMaps.keyOf_string_mk Tryz.underlying9 hk) unitElem_mk
  exact ⟨w', hrun, ⟨_, r1, hv.put _⟩, r2⟩

end Go.Proofs.YthmnnalamaponaaGreat

/- Part TkL. -/
namespace Go.Proofs.YthmnnalamaponaaGreat
open Go.RowKit
set_option linter.unusedVariables false

/-- What is passed over ahead of an attribute. -/
def skipC (c : UInt8) : Bool := stopC c && !decide (c = 62)
theorem skip_set : (fun c : UInt8 => ([9, 10, 12, 32, 47, 61] : List UInt8).contains c) = skipC := by
  funext c
  have e : ∀ x y : UInt8, decide (x = y) = decide (x.toNat = y.toNat) := fun x y => by rw [decide_eq_decide, UInt8.toNat_inj]
  have h62 : (62 : UInt8).toNat = 62 := rfl
  unfold skipC stopC blC
  simp only [List.contains_cons, List.contains_nil, u8beq, e, Bool.or_false]
  rw [Bool.eq_iff_iff]
  simp
  omega
theorem atts_skip (acc : List (ByteArray × ByteArray)) : ∀ l : List UInt8, attsOf acc (l.dropWhile skipC) = attsOf acc l
  | [] => rfl
  | c :: r => by
    cases h : skipC c with
    | true =>
      rw [List.dropWhile_cons, if_pos h, atts_skip acc r]
      unfold skipC at h
      simp only [Bool.and_eq_true, Bool.not_eq_true', decide_eq_false_iff_not] at h
      rw [attsOf_skip acc r h.2 h.1]
    | false => rw [List.dropWhile_cons, if_neg (by rw [h]; decide)]
theorem skip_head {l : List UInt8} {c : UInt8} {r : List UInt8} (h : l.dropWhile skipC = c :: r) (hc : c ≠ 62) : stopC c = false := by
  have := List.head?_dropWhile_not (p := skipC) (l := l)
  rw [h] at this
  simp [skipC, hc] at this
  exact this

theorem valOf_suf {l : List UInt8} {x : List UInt8 × List UInt8} (h : valOf l = some x) : x.2 <:+ l := by
  cases l with
  | nil =>
    have h' : some (([], []) : List UInt8 × List UInt8) = some x := h
    injection h' with h'
    subst h'
    exact List.suffix_refl _
  | cons q r =>
    rw [valOf_cons] at h
    split at h
    · split at h
      · injection h with h
        subst h
        exact (List.drop_suffix _ _).trans ((List.dropWhile_suffix _).trans (List.suffix_cons _ _))
      · cases h
    · injection h with h
      subst h
      exact List.dropWhile_suffix _
theorem attOf_suf {l : List UInt8} {x : (ByteArray × ByteArray) × List UInt8} (h : attOf l = some x) : x.2 <:+ l := by
  have hb : behind l <:+ l := (List.dropWhile_suffix _).trans (List.dropWhile_suffix _)
  cases hl : behind l with
  | nil =>
    rw [attOf_nil hl] at h
    injection h with h
    subst h
    exact List.nil_suffix
  | cons c r =>
    rw [hl] at hb
    by_cases hc : c = 61
    · subst hc
      rw [attOf_eq hl] at h
      cases hv : valOf (r.dropWhile blC) with
      | none => rw [hv] at h; cases h
      | some y =>
        rw [hv] at h
        injection h with h
        subst h
        exact (valOf_suf hv).trans ((List.dropWhile_suffix _).trans ((List.suffix_cons _ _).trans hb))
    · rw [attOf_other hl hc] at h
      injection h with h
      subst h
      exact hb
theorem suf_drop {l L : List UInt8} (h : L <:+ l) : ∃ m, m ≤ l.length ∧ L = l.drop m ∧ L.length = l.length - m := by
  obtain ⟨t, rfl⟩ := h
  exact ⟨t.length, by simp, by simp, by simp⟩

/-- One attribute more, or not. -/
theorem addA_len (acc : List (ByteArray × ByteArray)) (a : ByteArray × ByteArray) : (addA acc a).length ≤ acc.length + 1 := by
  unfold addA
  split
  · omega
  · simp
def metB (acc : List (ByteArray × ByteArray)) (k : List UInt8) : Bool := acc.any (fun x => decide (x.1.data.toList = k))
theorem addA_met {acc : List (ByteArray × ByteArray)} {a : ByteArray × ByteArray} (h : metB acc a.1.data.toList = true) : addA acc a = acc := by
  unfold addA
  rw [if_pos]
  unfold metB at h
  rw [← h]
  congr 1
  funext x
  rw [decide_eq_decide]
  exact ⟨fun e => by rw [e], fun e => bytes_inj e⟩
theorem addK_new {acc : List (ByteArray × ByteArray)} {a : ByteArray × ByteArray} (h : metB acc a.1.data.toList = false) : addA acc a = acc ++ [a] := by
  unfold addA
  rw [if_neg]
  rw [Bool.not_eq_true]
  unfold metB at h
  rw [← h]
  congr 1
  funext x
  rw [decide_eq_decide]
  exact ⟨fun e => by rw [e], fun e => bytes_inj e⟩
theorem metB_snoc (acc : List (ByteArray × ByteArray)) (a : ByteArray × ByteArray) (k : List UInt8) : (decide (k = a.1.data.toList) || metB acc k) = metB (acc ++ [a]) k := by
  unfold metB
  rw [List.any_append, Bool.or_comm]
  congr 1
  simp only [List.any_cons, List.any_nil, Bool.or_false]
  rw [decide_eq_decide]
  exact ⟨fun e => e.symm, fun e => e.symm⟩

end Go.Proofs.YthmnnalamaponaaGreat

/- Part TkN. -/
namespace Go.Proofs.YthmnnalamaponaaGreat
open Go.RowKit
set_option linter.unusedVariables false

/-- What the loop has made: the token, its attributes, the set of their names. -/
structure BegM (w2 wr : World) (nm : ByteArray) (acc : List (ByteArray × ByteArray)) (va : Value) : Prop where
  t : wr.heap[w2.heap.size]? = some (.cells #[.int .i64 1, .string nm, va, .string ⟨#[]⟩] 129 (0, 0))
  own : wr.ownsRow (w2.heap.size + 2) 39 2 va acc.length (acells acc)
  seen : Seen wr (w2.heap.size + 1) acc.length (metB acc)
  bel : Below w2.heap.size w2 wr
theorem BegM.later {w2 wr W : World} {nm : ByteArray} {acc : List (ByteArray × ByteArray)} {va : Value} (h : BegM w2 wr nm acc va) (hb : Below wr.heap.size wr W) : BegM w2 W nm acc va :=
  ⟨box_on h.t hb, own_below h.own hb, h.seen.below hb, below_after h.bel hb⟩
theorem own_attK {W : World} {base n c : Nat} {A : Option Addr} {al : List (ByteArray × ByteArray)} (h : W.ownsRow base 39 2 (.slice A n c) n (acells al)) (hn : n = al.length) (hc : n ≤ c) : AttrsAt (fun b => base ≤ b ∧ b < W.heap.size) W al (.slice A n c) := by
  subst hn
  exact ⟨A, c, rfl, hc, (Cells.own h).mono fun b hb => h.lt b hb⟩
theorem own_set4 {W : World} {base k : Nat} {v : Value} {n : Nat} {xs : List Value} {e : TypeId} (h : W.ownsRow base e 2 v n xs) (hk : k < base) (a b c d : Value) : ((((W.setCell ⟨k, 0, none⟩ a).setCell ⟨k, 1, none⟩ b).setCell ⟨k, 2, none⟩ c).setCell ⟨k, 3, none⟩ d).ownsRow base e 2 v n xs :=
  ownsRow_setCell_below (ownsRow_setCell_below (ownsRow_setCell_below (ownsRow_setCell_below h hk _) hk _) hk _) hk _
/-- A store into another block of the call's own. -/
theorem BegM.set {w2 W : World} {nm : ByteArray} {acc : List (ByteArray × ByteArray)} {va : Value} (h : BegM w2 W nm acc va) {k : Nat} (hk : w2.heap.size + 2 ≤ k) (hv : va.ownBlock ≠ some k) (i : Nat) (x : Value) : BegM w2 (W.setCell ⟨k, i, none⟩ x) nm acc va :=
  ⟨(heap_setCell_other W ⟨k, i, none⟩ w2.heap.size x (by show w2.heap.size ≠ k; omega)).trans h.t, ownsRow_setCell_other h.own hv x, h.seen.kept (heap_setCell_other W ⟨k, i, none⟩ (w2.heap.size + 1) x (by show w2.heap.size + 1 ≠ k; omega)), h.bel.setCell (p := ⟨k, i, none⟩) (by show w2.heap.size ≤ k; omega) x⟩
/-- One name more. -/
theorem BegM.put {w2 W W' : World} {nm : ByteArray} {acc : List (ByteArray × ByteArray)} {va : Value} (h : BegM w2 W nm acc va) (hg : W.grownBy W' (some (w2.heap.size + 1))) :
    W'.heap[w2.heap.size]? = some (.cells #[.int .i64 1, .string nm, va, .string ⟨#[]⟩] 129 (0, 0)) ∧ W'.ownsRow (w2.heap.size + 2) 39 2 va acc.length (acells acc) ∧ Below w2.heap.size w2 W' := by
  refine ⟨(hg.block _ (Array.getElem?_eq_some_iff.1 h.t).1 (by simp)).trans h.t, h.own.kept hg ?_, h.bel.grown hg h.bel.size (fun k hk => by injection hk with hk; omega)⟩
  cases hv : va.ownBlock with
  | none => exact .inl rfl
  | some g =>
    refine .inr fun e => ?_
    injection e with e
    have := (h.own.lt g hv).1
    omega
/-- One attribute more. -/
theorem begM_more {w2 W W' : World} {nm : ByteArray} {acc : List (ByteArray × ByteArray)} {va va' : Value} {o : Obj} {a : ByteArray × ByteArray} {m : Nat}
    (ht : W.heap[w2.heap.size]? = some (.cells #[.int .i64 1, .string nm, va, .string ⟨#[]⟩] 129 (0, 0))) (hown : W.ownsRow (w2.heap.size + 2) 39 2 va acc.length (acells acc)) (hb : Below w2.heap.size w2 W)
    (hs : Seen W (w2.heap.size + 1) m (metB (acc ++ [a]))) (hm : m = (acc ++ [a]).length) (hg : (W.alloc o).grownBy W' va.ownBlock) (hown' : W'.ownsRow (w2.heap.size + 2) 39 2 va' (acc ++ [a]).length (acells (acc ++ [a]))) :
    BegM w2 (W'.setCell ⟨w2.heap.size, 2, none⟩ va') nm (acc ++ [a]) va' := by
  have hlt := (Array.getElem?_eq_some_iff.1 ht).1
  have hls := hs.lt
  have ob := hown.lt
  have e0 : W'.heap[w2.heap.size]? = some (.cells #[.int .i64 1, .string nm, va, .string ⟨#[]⟩] 129 (0, 0)) :=
    (hg.block _ (by simp; omega) (fun e => by have := (ob _ e.symm).1; omega)).trans ((Below.heap_alloc W o _ hlt).trans ht)
  have e1 : W'.heap[w2.heap.size + 1]? = W.heap[w2.heap.size + 1]? := (hg.block _ (by simp; omega) (fun e => by have := (ob _ e.symm).1; omega)).trans (Below.heap_alloc W o _ hls)
  refine ⟨?_, ?_, ?_, ?_⟩
  · have := heap_setCell_same W' w2.heap.size 2 _ _ va' e0
    simpa using this
  · exact ownsRow_setCell_below hown' (a := ⟨w2.heap.size, 2, none⟩) (by show w2.heap.size < w2.heap.size + 2; omega) _
  · subst hm
    exact (hs.kept e1).kept (heap_setCell_other W' ⟨w2.heap.size, 2, none⟩ (w2.heap.size + 1) va' (by show w2.heap.size + 1 ≠ w2.heap.size; omega))
  · exact ((hb.alloc hb.size o).grown hg (by have := hb.size; simp; omega) (fun k hk => by have := (ob _ hk).1; omega)).setCell (p := ⟨w2.heap.size, 2, none⟩) (Nat.le_refl _) _

theorem begT_more {w2 W W' : World} {nm : ByteArray} {xs : List Value} {n : Nat} {va : Value} {o : Obj}
    (ht : W.heap[w2.heap.size]? = some (.cells #[.int .i64 1, .string nm, va, .string ⟨#[]⟩] 129 (0, 0))) (hown : W.ownsRow (w2.heap.size + 2) 39 2 va n xs) (hg : (W.alloc o).grownBy W' va.ownBlock) :
    W'.cell? ⟨w2.heap.size, 2, none⟩ = some va ∧ W'.frozen? ⟨w2.heap.size, 2, none⟩ = false := by
  have hlt := (Array.getElem?_eq_some_iff.1 ht).1
  have e0 : W'.heap[w2.heap.size]? = some (.cells #[.int .i64 1, .string nm, va, .string ⟨#[]⟩] 129 (0, 0)) :=
    (hg.block _ (by simp; omega) (fun e => by have := (hown.lt _ e.symm).1; omega)).trans ((Below.heap_alloc W o _ hlt).trans ht)
  exact ⟨cell_at e0 2, froz_at e0 2⟩

/-- A name is put into the set. -/
theorem wpList_seen {w : World} {ops : Array Oper} {rest : List Oper} {o : Oper} {a : Act} {Q : Exit → Act → World → Prop}
    (hg : o.guard = none) (m x v : Operand) (hop : o.op = Op.mapUpdate 81 m x v)
    (b n : Nat) (f : List UInt8 → Bool) (h : Seen w b n f) (hn : n ≤ 2000000) (hm : a.eval m = .map (some b)) (k : ByteArray) (hx : a.eval x = .string k) (hv : a.eval v = .agg #[]) (hk : k.size ≤ maxLen)
    (hK : ∀ w', Seen w' b (n + 1) (fun l => decide (l = k.data.toList) || f l) → w.grownBy w' (some b) → wpList Tryz.prog ops Q rest (a.put o.dst undef) w') :
    wpList Tryz.prog ops Q (o :: rest) a w := by
  refine wpList_plain hg fun K' hK' => ?_
  obtain ⟨w', hrun, r1, r2⟩ := h.store hn k hk
  unfold Oper.wp
  simp [execOp, hop, hm, hx, hv, hrun, Result.andThen]
  exact hK' _ _ (hK w' r1 r2)

structure BegL (l L0 : List UInt8) (acc : List (ByteArray × ByteArray)) (left : ByteArray) : Prop where
  suf : left.data.toList <:+ l
  is : attsOf acc left.data.toList = attsOf [] L0
  len : acc.length + left.size ≤ l.length

theorem BegL.step {l L0 r : List UInt8} {c : UInt8} {acc : List (ByteArray × ByteArray)} {left left3 nm v : ByteArray} (h : BegL l L0 acc left) (hsuf : c :: r <:+ l) (his : attsOf acc (c :: r) = attsOf [] L0) (hst : stopC c = false)
    (h3 : left3.data.toList = ((attOf (c :: r)).map (·.2)).getD []) (hx : ∀ x, attOf (c :: r) = some x → (nm, v) = x.1) (hlen : (c :: r).length ≤ left.size) : BegL l L0 (addA acc (nm, v)) left3 ∧ left3.size < left.size := by
  have hz : left3.size = left3.data.toList.length := str_list _
  have ha := addA_len acc (nm, v)
  have hl := h.len
  cases hat : attOf (c :: r) with
  | none =>
    rw [hat] at h3
    have h3' : left3.data.toList = [] := h3
    rw [h3', List.length_nil] at hz
    rw [List.length_cons] at hlen
    refine ⟨⟨by rw [h3']; exact List.nil_suffix, ?_, by omega⟩, by omega⟩
    rw [h3', attsOf_nil, ← his, attsOf_none acc hst hat]
  | some x =>
    rw [hat] at h3
    have h3' : left3.data.toList = x.2 := h3
    have hxl := attOf_len hst hat
    rw [h3'] at hz
    refine ⟨⟨by rw [h3']; exact (attOf_suf hat).trans hsuf, ?_, by omega⟩, by omega⟩
    rw [h3', ← his, attsOf_some acc hst hat, hx x hat]

set_option maxHeartbeats 4000000 in
set_option maxRecDepth 100000 in
theorem tkbegin_any (s : ByteArray) (a0 : UInt8) (L : List UInt8) (hs : s.data.toList = a0 :: L) (w : World) (hm : s.size ≤ 1000000) :
    Calls Tryz.prog 129 #[.string s] w (TagRet ((attsOf [] (L.dropWhile tagC)).map fun x => tkB ((L.takeWhile tagC).map lowB) x.1) (((attsOf [] (L.dropWhile tagC)).map (·.2)).getD []) s.data.toList w) := by
  obtain ⟨l, hl⟩ : ∃ l, s.data.toList = l := ⟨_, rfl⟩
  have hsz : s.size = l.length := by rw [← hl]; simp
  have hll : l.length = L.length + 1 := by rw [← hl, hs]; rfl
  have hex : (s.extract 1 s.size).data.toList = L := by rw [drop_extract, hs]; rfl
  have HLL := Lib.hid (show l = a0 :: L by rw [← hl, hs])
  rw [hl]
  have H1 := Lib.hid (fun W => part_any (s.extract 1 s.size) 139 #[] tagZ tagC false W (asks_named W) bytely_named (by rw [ByteArray.size_extract]; omega))
  have HSL := Lib.hid hl
  have HSZ := Lib.hid hsz
  have HEX := Lib.hid hex
  have HLZ := Lib.hid hll
  have h1' : (1 : Int) ≤ (s.size : Int) := by omega
  have hmm := @run_makeMap Tryz.prog
  obtain ⟨L0, hL0⟩ : ∃ L0, L.dropWhile tagC = L0 := ⟨_, rfl⟩
  rw [hL0]
  have HL0E := Lib.hid hL0
  clear hl hsz hex hs hll hL0
  go_enter Tryz.func129, Tryz.ntmps129
  go_wp2_with fail
  refine (H1.out _).mono ?_
  rintro e w1 ⟨a, b, rfl, ha, hb, hb1⟩
  rw [HEX.out] at ha hb
  have hrx1 := box_on (box_here w #[.int .i64 0, .string ⟨#[]⟩, .slice none 0 0, .string ⟨#[]⟩] 129) hb1
  have hB1 := below_after (below_new w _) hb1
  have haz : a.size ≤ 1000000 := by rw [str_list, ha]; have := takeW_len tagC L; have := HSZ.out; have := HLZ.out; omega
  have HA := Lib.hid ha
  have HB := Lib.hid hb
  clear ha hb hb1
  go_wp2_with fail
  refine (fold_any a _ (by unfold maxLen; omega)).mono ?_
  rintro e w2 ⟨rfl, hb2⟩
  rw [HA.out]
  obtain ⟨nm, hnm, hnml, hnmz⟩ := str_of ((L.takeWhile tagC).map lowB)
  rw [hnm]
  have hrx2 := box_on hrx1 hb2
  have hB2 := below_after hB1 hb2
  have HNM := Lib.hid (show nm = tB ((L.takeWhile tagC).map lowB) from hnm.symm)
  clear hnm hnml hnmz hrx1 hB1 hb2 H1
  go_wp2_with fail
  have hw2w : w.heap.size < w2.heap.size := (Array.getElem?_eq_some_iff.1 hrx2).1
  have HB2 := Lib.hid hB2
  have HRX2 := Lib.hid hrx2
  have HL0 := Lib.hid (show b.data.toList <:+ l by rw [HB.out, HLL.out]; exact (List.dropWhile_suffix _).trans (List.suffix_cons _ _))
  rw [HL0E.out] at HB
  have hl6 : l.length ≤ 1000000 := by rw [← HSZ.out]; exact hm
  have H2 := Lib.hid (fun (x : ByteArray) (hx : x.size ≤ 1000000) (w1 : World) (b : Nat) (hb : b < w1.heap.size) (hc : w1.cell? ⟨b, 0, none⟩ = some (.string ⟨#[9, 10, 12, 32, 47, 61]⟩)) => part_among x ⟨#[9, 10, 12, 32, 47, 61]⟩ b w1 hb hc rfl (by decide) hx)
  simp only [skip_set] at H2
  clear hB2 hrx2 hmm
  go_loopw [5] (fun x wr => ∃ (left : ByteArray) (acc : List (ByteArray × ByteArray)) (va : Value), x = .string left ∧ BegL l L0 acc left ∧ BegM w2 wr nm acc va) (fun x _ => match x with | .string t => t.size | _ => 0)
  case atStart =>
    refine ⟨b, [], .slice none 0 0, rfl, ⟨HL0.out, by rw [HB.out], by rw [str_list]; have := HL0.out.length_le; simpa using this⟩, ?_, World.ownsRow_nil _ _ _ _, ?_, ?_⟩
    · exact box_on (box_here w2 _ _) (below_new _ _)
    · have e : (w2.alloc (.cells #[.int .i64 1, .string nm, .slice none 0 0, .string ⟨#[]⟩] 129)).heap.size = w2.heap.size + 1 := by simp
      have h := Seen.made (w2.alloc (.cells #[.int .i64 1, .string nm, .slice none 0 0, .string ⟨#[]⟩] 129))
      rw [e] at h
      exact h.congr fun l => rfl
    · exact below_after (below_new w2 _) (below_new _ _)
  case round =>
    obtain ⟨left, acc, va, rfl, HL, HM⟩ := hrel
    have HLL1 := Lib.hid HL
    have hlz : left.size ≤ 1000000 := by have := HL.len; omega
    have hacc : acc.length ≤ 1000000 := by have := HL.len; omega
    clear HL
    go_wp2_with fail
    refine (among_any _ _).mono ?_
    rintro e w3 ⟨b3, rfl, hbl3, hbc3, hb3⟩
    have HM3 := HM.later hb3
    have H3 := Lib.hid (H2.out left hlz w3 b3 hbl3 hbc3)
    clear HM hb3 hbl3 hbc3
    go_wp2_with fail
    refine H3.out.mono ?_
    rintro e w4 ⟨_, left2, rfl, _, hl2, hb4⟩
    have HM4 := HM3.later hb4
    have hbe := eqs left2 []
    rw [hl2] at hbe
    have hl2z : left2.size = (left.data.toList.dropWhile skipC).length := by rw [str_list, hl2]
    have hsuf : left.data.toList.dropWhile skipC <:+ l := (List.dropWhile_suffix _).trans HLL1.out.suf
    have his : attsOf acc (left.data.toList.dropWhile skipC) = attsOf [] L0 := by rw [atts_skip, HLL1.out.is]
    have hll2 : (left.data.toList.dropWhile skipC).length ≤ left.size := by rw [str_list]; exact dropW_len _ _
    have HX2 := Lib.hid hl2
    have hhd := fun (c : UInt8) (r : List UInt8) (h : left.data.toList.dropWhile skipC = c :: r) (hc : c ≠ 62) => skip_head h hc
    obtain ⟨D, hD⟩ : ∃ D, left.data.toList.dropWhile skipC = D := ⟨_, rfl⟩
    rw [hD] at hbe hl2z hsuf his hll2 HX2
    rw [hD] at hhd
    have HB4 := Lib.hid (below_after HB2.out (HM4.bel.mono (Nat.le_refl _)))
    have HRX4 := Lib.hid ((HM4.bel.block _ hw2w).trans HRX2.out)
    clear hl2 hb4 HM3 hD H3
    cases D with
    | nil =>
      have B0 : (left2.toList == []) = true := by rw [hbe]; rfl
      rw [attsOf_nil] at his
      have HIS := Lib.hid his
      have d0 : w4.cell? ⟨w.heap.size, 0, none⟩ = some (.int .i64 0) := cell_at HRX4.out 0
      have d1 : w4.cell? ⟨w.heap.size, 1, none⟩ = some (.string ⟨#[]⟩) := cell_at HRX4.out 1
      have d2 : w4.cell? ⟨w.heap.size, 2, none⟩ = some (.slice none 0 0) := cell_at HRX4.out 2
      have d3 : w4.cell? ⟨w.heap.size, 3, none⟩ = some (.string ⟨#[]⟩) := cell_at HRX4.out 3
      have f0 := froz_at HRX4.out 0
      have f1 := froz_at HRX4.out 1
      have f2 := froz_at HRX4.out 2
      have f3 := froz_at HRX4.out 3
      clear hbe hl2z hsuf his hll2 hhd HM4
      go_wp2_with fail
      refine bodyPost_ret (v := .tuple #[.agg #[.int .i64 0, .string ⟨#[]⟩, .slice none 0 0, .string ⟨#[]⟩], .int .i64 s.size]) ?_ rfl ?_
      · simp [results, Tryz.f129, go_sem, d0, d1, d2, d3]
      · rw [← HIS.out]
        exact ⟨.slice none 0 0, s.size, rfl, by rw [HSZ.out]; exact Nat.le_refl _, List.drop_eq_nil_of_le (by rw [HSZ.out]; exact Nat.le_refl _), AttrsAt.nil _ _, set4 HB4.out _ _ _ _⟩
    | cons c r =>
      have B0 : (left2.toList == []) = false := by rw [hbe]; rfl
      have hl2p : 0 < left2.size := by rw [hl2z]; simp
      have g0 : ((left2[0]'hl2p).toNat : Int) = c.toNat := by
        have e := starts_at0 HX2.out 0 hl2p
        injection e with e
        rw [e]
      obtain ⟨A9, c9, rfl, hc9⟩ := own_size HM4.own
      have t0 : w4.cell? ⟨w2.heap.size, 0, none⟩ = some (.int .i64 1) := cell_at HM4.t 0
      have t1 : w4.cell? ⟨w2.heap.size, 1, none⟩ = some (.string nm) := cell_at HM4.t 1
      have t2 : w4.cell? ⟨w2.heap.size, 2, none⟩ = some (.slice A9 acc.length c9) := cell_at HM4.t 2
      have t3 : w4.cell? ⟨w2.heap.size, 3, none⟩ = some (.string ⟨#[]⟩) := cell_at HM4.t 3
      by_cases h62 : c = 62
      · subst h62
        have g62 : ((left2[0]'hl2p).toNat : Int) = 62 := g0
        obtain ⟨m, hm1, hm2, hm3⟩ := suf_drop hsuf
        rw [attsOf_end] at his
        have HIS := Lib.hid his
        have hsl : left2.size ≤ s.size := by have := HSZ.out; omega
        have hmz : s.size - left2.size = m := by
          have h1 := HSZ.out
          have h2 : left2.size = l.length - m := by rw [hl2z, hm3]
          omega
        have hw1 : IntKind.i64.wrap ((s.size : Int) - (left2.size : Int)) = (m : Int) := wrapI (by omega) (by omega)
        have hw2 : wrap64 ((s.size : Int) - (left2.size : Int)) = (m : Int) := wrap6 (by omega) (by omega)
        have hw3 : IntKind.i64.wrap ((m : Int) + 1) = ((m + 1 : Nat) : Int) := wrapI (by omega) (by omega)
        have HMD := Lib.hid hm2
        have hml : m + 1 ≤ l.length := by
          have := congrArg List.length hm2
          rw [List.length_drop, List.length_cons] at this
          omega
        have d0 : w4.cell? ⟨w.heap.size, 0, none⟩ = some (.int .i64 0) := cell_at HRX4.out 0
        have d1 : w4.cell? ⟨w.heap.size, 1, none⟩ = some (.string ⟨#[]⟩) := cell_at HRX4.out 1
        have d2 : w4.cell? ⟨w.heap.size, 2, none⟩ = some (.slice none 0 0) := cell_at HRX4.out 2
        have d3 : w4.cell? ⟨w.heap.size, 3, none⟩ = some (.string ⟨#[]⟩) := cell_at HRX4.out 3
        have f0 := froz_at HRX4.out 0
        have f1 := froz_at HRX4.out 1
        have f2 := froz_at HRX4.out 2
        have f3 := froz_at HRX4.out 3
        have HOWN := Lib.hid HM4.own
        clear hbe hl2z hsuf his hll2 hhd HM4 g0 hm1 hm2 hm3 hmz
        go_wp2_with fail
        refine bodyPost_ret (v := .tuple #[.agg #[.int .i64 1, .string nm, .slice A9 acc.length c9, .string ⟨#[]⟩], .int .i64 ((m : Int) + 1)]) ?_ rfl ?_
        · simp [results, Tryz.f129, go_sem, d0, d1, d2, d3]
        · rw [← HIS.out]
          refine ⟨.slice A9 acc.length c9, m + 1, ?_, hml, ?_, ?_, set4 HB4.out _ _ _ _⟩
          · rw [HNM.out]
            rfl
          · show l.drop (m + 1) = r
            rw [← List.drop_drop, ← HMD.out]
            rfl
          · have := own_attK (own_set4 HOWN.out (k := w.heap.size) (by omega) (.int .i64 1) (.string nm) (.slice A9 acc.length c9) (.string ⟨#[]⟩)) rfl hc9
            exact this.mono fun b hb => ⟨by omega, hb.2⟩
      · have hst := hhd c r rfl h62
        have h62i : ((c.toNat : Int) == 62) = false := by
          rw [beq_eq_false_iff_ne]
          intro e
          exact h62 (UInt8.toNat_inj.1 (show c.toNat = 62 by omega))
        have hl2z6 : left2.size ≤ 1000000 := by omega
        have HATT := Lib.hid (fun W => tkattr_any left2 W hl2z6)
        have HOV := Lib.hid (show (Value.slice A9 acc.length c9).ownBlock ≠ some w4.heap.size from fun e => by have := (HM4.own.lt _ e).2; omega)
        have HA2 := Lib.hid (show w2.heap.size + 2 ≤ w4.heap.size from HM4.seen.lt)
        have HM5 := HM4.later (below_new w4 (.cells #[.string ⟨#[]⟩, .string ⟨#[]⟩] 39))
        clear hbe HM4 t0 t1 t2 t3
        go_wp2_with fail
        refine (HATT.out _).mono ?_
        rintro e w5 ⟨nm2, v2, left3, rfl, hl3, hx3, hnz3, hb5⟩
        rw [HX2.out] at hl3 hx3 hnz3
        have HM6 := HM5.later hb5
        have hax5 := box_on (box_here w4 #[.string ⟨#[]⟩, .string ⟨#[]⟩] 39) hb5
        have a0 : w5.cell? ⟨w4.heap.size, 0, none⟩ = some (.string ⟨#[]⟩) := cell_at hax5 0
        have a1 : w5.cell? ⟨w4.heap.size, 1, none⟩ = some (.string ⟨#[]⟩) := cell_at hax5 1
        have fa0 := froz_at hax5 0
        have fa1 := froz_at hax5 1
        have hA2 : w2.heap.size + 2 ≤ w4.heap.size := HA2.out
        have hM7 := (HM6.set hA2 HOV.out 0 (.string nm2)).set hA2 HOV.out 1 (.string v2)
        have hlk := hM7.seen.look nm2 (by have := hnz3; unfold maxLen; simp only [List.length_cons] at this hl2z; omega)
        have hbx7 : ((w5.setCell ⟨w4.heap.size, 0, none⟩ (.string nm2)).setCell ⟨w4.heap.size, 1, none⟩ (.string v2)).heap[w4.heap.size]? = some (.cells #[.string nm2, .string v2] 39 (0, 0)) := by
          have h1 := heap_setCell_same w5 w4.heap.size 0 _ _ (.string nm2) hax5
          have h2 := heap_setCell_same _ w4.heap.size 1 _ _ (.string v2) h1
          simpa using h2
        have hstep := HLL1.out.step (nm := nm2) (v := v2) hsuf his hst hl3 hx3 hll2
        have HST := Lib.hid hstep
        have HM7 := Lib.hid hM7
        have HBX7 := Lib.hid hbx7
        have hnz : nm2.size ≤ maxLen := by have := hnz3; unfold maxLen; simp only [List.length_cons] at this hl2z; omega
        obtain ⟨q, hq⟩ : ∃ q, metB acc nm2.data.toList = q := ⟨_, rfl⟩
        rw [hq] at hlk
        have HQ := Lib.hid hq
        clear hM7 hbx7 hstep hax5 hb5 hl3 hx3 hnz3 HM5 HM6 hq hl2z hsuf his hll2 hhd hst
        cases q with
        | true =>
          go_wp2_with fail
          go_roundw
          case rel =>
            refine ⟨left3, acc, .slice A9 acc.length c9, rfl, ?_, HM7.out.later (below_new _ _)⟩
            have := HST.out.1
            rw [addA_met HQ.out] at this
            exact this
          case measure => exact HST.out.2
        | false =>
          have hm8 := HM7.out.later (below_new _ (.cells #[] 82))
          have hbx8 := box_on HBX7.out (below_new _ (.cells #[] 82))
          have b0 := (cell_at hbx8 0).trans (show _ = some (Value.string nm2) from rfl)
          have b1 := (cell_at hbx8 1).trans (show _ = some (Value.string v2) from rfl)
          have t2 := (cell_at hm8.t 2).trans (show _ = some (Value.slice A9 acc.length c9) from rfl)
          have HM8 := Lib.hid hm8
          have HBX8 := Lib.hid hbx8
          have HPUT := Lib.hid (fun W' hg => hm8.put (W' := W') hg)
          clear hm8 hbx8
          obtain ⟨i0, hi, hz0, hz1, hz2⟩ := info_parts info_attr
          go_wp2_with (first
            | (at_mapUpdate; refine wpList_seen rfl _ _ _ rfl (w2.heap.size + 1) acc.length (metB acc) HM8.out.seen (by omega) rfl nm2 rfl rfl hnz ?_; intro w9 hsn9 hg9; obtain ⟨ht9, ho9, hb9⟩ := HPUT.out w9 hg9; have hbx9 := (hg9.block _ (Array.getElem?_eq_some_iff.1 HBX8.out).1 (by intro e; injection e with e; omega)).trans HBX8.out; have x0 := (cell_at hbx9 0).trans (show _ = some (Value.string nm2) from rfl); have x1 := (cell_at hbx9 1).trans (show _ = some (Value.string v2) from rfl); have y2 := (cell_at ht9 2).trans (show _ = some (Value.slice A9 acc.length c9) from rfl); have yf := froz_at ht9 2; have HT9 := Lib.hid ht9; have HSN9 := Lib.hid hsn9; have HO9 := Lib.hid ho9; have HB9 := Lib.hid hb9; clear ht9 hsn9 ho9 hb9 hg9 hbx9)
            | (at_builtin; refine wpList_append_own _ rfl _ _ 33 rfl (w2.heap.size + 2) 39 i0 _ 2 32 Tryz.underlying33 hi hz0 hz1 hz2 rfl (by decide) _ _ _ rfl (HO9.out.alloc _) ⟨w9.heap.size, 0, none⟩ 1 1 (acells [(nm2, v2)]) rfl rfl (new_two w9 _ _ _) (acells_one _) (by unfold maxLen; omega) (by omega) (by have := HSN9.out.lt; simp; omega) ?_; intro v' w10 hown' hgrow _; obtain ⟨A8, c8, rfl, _⟩ := own_size hown'; obtain ⟨z2, zf⟩ := begT_more HT9.out HO9.out hgrow; have HOW := Lib.hid hown'; have HGR := Lib.hid hgrow; clear hown' hgrow))
          go_roundw
          case rel =>
            refine ⟨left3, acc ++ [(nm2, v2)], .slice A8 (acc.length + 1) c8, rfl, ?_, ?_⟩
            · have := HST.out.1
              rw [addK_new HQ.out] at this
              exact this
            · refine begM_more HT9.out HO9.out HB9.out (HSN9.out.congr fun k => metB_snoc acc (nm2, v2) k) (by simp) HGR.out ?_
              rw [acells_append, List.length_append]
              exact HOW.out
          case measure => exact HST.out.2

end Go.Proofs.YthmnnalamaponaaGreat
