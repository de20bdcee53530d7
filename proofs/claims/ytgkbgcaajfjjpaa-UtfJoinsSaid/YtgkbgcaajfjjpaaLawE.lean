/- strainerlaw01: the walk of UtfJoins. -/
import Derived.Test.YtgkbgcaajfjjpaaLawD
import Derived.Laws.Concat
namespace Go.Proofs.Ytgkbgcaajfjjpaa
open Go.RowKit
set_option linter.unusedVariables false

/-- 'x[:k]' within the capacity. -/
theorem cut_head (W : World) (A : Option Addr) (n c k : Nat) (hk : k ≤ c) :
    (Instr.slice 22 (.slice A n c) none (some (.int .i64 (k : Int))) none).run Try.prog W = .ok (.slice A k c) W := by
  have he : Try.prog.elem 22 = 5 := by kernel_rfl
  rw [run_slice_h W 22 A n c (by rw [he]; exact Try.underlying22) .i64 (k : Int) (by omega) (by omega)]
  rw [he, Try.sizeOf5]
  simp only [Result.andThen, sliced, Int.toNat_natCast, Nat.zero_mul, Nat.sub_zero]
  have e : (A.map fun x => x.add 0) = A := by
    cases A with
    | none => rfl
    | some a => rfl
  rw [e]
  split <;> rfl

theorem isB_join (a b : List UInt8) : isB (right a ++ right b) = true := by
  unfold right
  rw [← enc_append]
  refine isB_enc _ (fun r hr => ?_)
  rcases List.mem_append.1 hr with h | h
  · exact norm_ok (runes a) 0 (runes_ok _ a (Nat.le_refl _)) r h
  · exact norm_ok (runes b) 0 (runes_ok _ b (Nat.le_refl _)) r h

theorem runes_right (a : List UInt8) : runes (right a) = norm 0 (runes a) := runes_enc _ (fun r hr => (norm_ok (runes a) 0 (runes_ok _ a (Nat.le_refl _)) r hr).1)

theorem runes_join (a b : List UInt8) : runes (right a ++ right b) = runes (right a) ++ runes (right b) := by
  rw [runes_right, runes_right]
  unfold right
  rw [← enc_append]
  refine runes_enc _ (fun r hr => ?_)
  rcases List.mem_append.1 hr with h | h
  · exact (norm_ok (runes a) 0 (runes_ok _ a (Nat.le_refl _)) r h).1
  · exact (norm_ok (runes b) 0 (runes_ok _ b (Nat.le_refl _)) r h).1

/-- What is told of a text that was made right, for the calls behind. -/
theorem str_of (r : List UInt8) : ∃ s : ByteArray, (⟨r.toArray⟩ : ByteArray) = s ∧ s.data.toList = r ∧ s.size = r.length := ⟨_, rfl, rfl, rfl⟩

theorem sits_conv {w : World} {s : ByteArray} {r : List UInt8} (h : s.data.toList = r) :
    ∃ w2, (w.alloc (.cells (bytesRow s (grownCap w s.size 0 5)) 5 ((bytesRow s (grownCap w s.size 0 5)).size, (bytesRow s (grownCap w s.size 0 5)).size + 1))).drew = w2 ∧
      Sits w2 w2.heap.size (some ⟨w.heap.size, 0, none⟩) (Lib.byteCells r) ∧ Below w.heap.size w w2 := by
  refine ⟨_, rfl, ?_, alloc_drew_below w _⟩
  have := sits_new w s (grownCap w s.size 0 5)
  rw [h] at this
  simpa using this

theorem rcells_one (l : List Int) : ∀ u ∈ rcells l, u.oneCell' = true := by
  intro u hu
  unfold rcells at hu
  obtain ⟨b, _, rfl⟩ := List.mem_map.1 hu
  rfl

set_option maxHeartbeats 800000 in
set_option maxRecDepth 100000 in
theorem utfJoins_end (A : Option Addr) (n c : Nat) (l : List UInt8) (B : Option Addr) (n' c' : Nat) (l' : List UInt8) (w : World)
    (hs : Sits w w.heap.size A (Lib.byteCells l)) (hn : n = l.length) (hc : n ≤ c) (hm : n ≤ maxLen) (hs' : Sits w w.heap.size B (Lib.byteCells l')) (hn' : n' = l'.length) (hc' : n' ≤ c') (hm' : n' ≤ maxLen) :
    Calls Try.prog 7 #[.slice A n c, .slice B n' c'] w fun e w' => e = .returned (.bool true) ∧ Below w.heap.size w w' := by
  obtain ⟨i0, hi, hz0, hz1, hz2⟩ := info_parts info_rune
  have kb := fun (w : World) (s : ByteArray) => run_bytes_of_string (P := Try.prog) w 9 22 5 s Try.underlying9 Try.underlying22 Try.underlying5
  unfold maxLen at hm hm'
  -- the two arguments, cut
  obtain ⟨a, ha⟩ : ∃ a, l.take 100 = a := ⟨_, rfl⟩
  obtain ⟨b, hb⟩ : ∃ b, l'.take 100 = b := ⟨_, rfl⟩
  have sa := hs.take 100
  have sb := hs'.take 100
  rw [← byteCells_take, ha] at sa
  rw [← byteCells_take, hb] at sb
  have la : a.length = min 100 n := by rw [← ha, List.length_take, hn]
  have lb : b.length = min 100 n' := by rw [← hb, List.length_take, hn']
  have SA := Lib.hid sa
  have SB := Lib.hid sb
  have LA := Lib.hid la
  have LB := Lib.hid lb
  have la2 : a.length ≤ 100 := by omega
  have lb2 : b.length ≤ 100 := by omega
  clear hs hs' ha hb hn hn' sa sb la lb
  rcases (show 100 < n ∨ n ≤ 100 by omega) with h1 | h1 <;> rcases (show 100 < n' ∨ n' ≤ 100 by omega) with h2 | h2
  all_goals
    first | have kh1 := fun W => cut_head W A n c 100 (by omega) | skip
    first | have kh2 := fun W => cut_head W B n' c' 100 (by omega) | skip
    have ra := right_len a
    have rb := right_len b
    have na := runes_len _ (right a) (Nat.le_refl _)
    have nb := runes_len _ (right b) (Nat.le_refl _)
    have hjoin := Lib.hid (runes_join a b)
    have hisb := Lib.hid (isB_join a b)
    go_enter Try.func7, Try.ntmps7
    go_wp2_with fail
    first | rw [show (100 : Nat) = a.length from (by have := LA.out; omega)] | rw [show n = a.length from (by have := LA.out; omega)]
    refine (right_any A c a w SA.out (by omega)).mono ?_
    rintro e w1 ⟨rfl, hb1⟩
    have sb1 := (SB.out.below hb1).more hb1.size
    generalize right a = r at *
    obtain ⟨s, hs, hsl, hsz⟩ := str_of r
    rw [hs]
    have HSL := Lib.hid hsl
    have HSZ := Lib.hid hsz
    have hs2 : s.size ≤ 1000 := by omega
    clear hs hsl hsz
    go_wp2_with fail
    first | rw [show (100 : Nat) = b.length from (by have := LB.out; omega)] | rw [show n' = b.length from (by have := LB.out; omega)] | rw [show a.length = b.length from (by have := LA.out; have := LB.out; omega)]
    refine (right_any B c' b w1 sb1 (by omega)).mono ?_
    rintro e w2 ⟨rfl, hb2⟩
    have hB2 := below_after hb1 hb2
    clear hb1 hb2 sb1
    generalize right b = q at *
    obtain ⟨t, ht, htl, htz⟩ := str_of q
    rw [ht]
    have HTL := Lib.hid htl
    have HTZ := Lib.hid htz
    have ht2 : t.size ≤ 1000 := by omega
    have hst : s.size + t.size ≤ 9223372036854775807 := by omega
    have hstn : ¬ (s.size + t.size > 9223372036854775807) := by omega
    clear ht htl htz
    go_wp2_with fail
    obtain ⟨w3, hw3, sits3, hb3⟩ := sits_conv (w := w2) HSL.out
    rw [hw3]
    have hB3 := below_after hB2 hb3
    clear hw3 hB2 hb3
    rw [HSZ.out]
    refine (runes_some _ _ r w3 sits3 (by omega)).mono ?_
    rintro e w4 ⟨g4, c4, rfl, hc4, hown4, hb4⟩
    have hB4 := below_after hB3 hb4
    rw [← HSZ.out]
    have news4 := Lib.hid (hown4.cells rfl)
    clear hB3 hb4 sits3 hown4
    go_wp2_with (at_builtin; refine wpList_append_own _ rfl _ _ 25 rfl w.heap.size 21 i0 (.int .i32 0) 1 4 Try.underlying25 hi hz0 hz1 hz2 rfl (by decide) _ _ _ rfl (World.ownsRow_nil _ _ _ _) ⟨g4, 0, none⟩ (runes r).length c4 (rcells (runes r)) rfl (by rw [rcells_length]; omega) news4.out (rcells_one _) (by unfold maxLen; omega) (by omega) hB4.size ?_; intro v5 w5 hown5 hgrow5 _)
    simp only [Nat.zero_add, List.nil_append] at hown5
    have hB5 : Below w.heap.size w w5 := hB4.grown hgrow5 hB4.size (fun g hg => by cases hg)
    clear hgrow5 hB4 news4
    obtain ⟨w6, hw6, sits6, hb6⟩ := sits_conv (w := w5) HTL.out
    rw [hw6]
    have hB6 := below_after hB5 hb6
    have own6 := own_below hown5 hb6
    clear hw6 hB5 hb6 hown5
    rw [HTZ.out]
    refine (runes_some _ _ q w6 sits6 (by omega)).mono ?_
    rintro e w7 ⟨g7, c7, rfl, hc7, hown7, hb7⟩
    have hB7 := below_after hB6 hb7
    have own7 := own_below own6 hb7
    rw [← HTZ.out]
    have news7 := Lib.hid (hown7.cells rfl)
    clear hB6 hb7 sits6 hown7 own6
    go_wp2_with (at_builtin; refine wpList_append_own _ rfl _ _ 25 rfl w.heap.size 21 i0 (.int .i32 0) 1 4 Try.underlying25 hi hz0 hz1 hz2 rfl (by decide) _ _ _ rfl own7 ⟨g7, 0, none⟩ (runes q).length c7 (rcells (runes q)) rfl (by rw [rcells_length]; omega) news7.out (rcells_one _) (by unfold maxLen; omega) (by omega) hB7.size ?_; intro v8 w8 hown8 hgrow8 _)
    have hB8 : Below w.heap.size w w8 := hB7.grown hgrow8 hB7.size (fun g hg => (own7.lt g hg).1)
    clear hgrow8 hB7 news7 own7
    have hdl : (s ++ t).data.toList = r ++ q := by rw [ByteArray.data_append, Array.toList_append, HSL.out, HTL.out]
    have hdz : (s ++ t).size = (r ++ q).length := by rw [ByteArray.size_append, HSZ.out, HTZ.out, List.length_append]
    rw [show s.size + t.size = (s ++ t).size from ByteArray.size_append.symm]
    obtain ⟨w9, hw9, sits9, hb9⟩ := sits_conv (w := w8) hdl
    rw [hw9]
    have hB9 := below_after hB8 hb9
    have own9 := own_below hown8 hb9
    have HDL := Lib.hid hdl
    have hrq : (r ++ q).length ≤ 2000 := by rw [List.length_append]; omega
    rw [hdz]
    clear hw9 hB8 hb9 hown8 hdl hdz
    refine (runes_some _ _ (r ++ q) w9 sits9 (by omega)).mono ?_
    obtain ⟨L, hL⟩ : ∃ L, runes r ++ runes q = L := ⟨_, rfl⟩
    rw [hjoin.out, hL]
    rintro e w10 ⟨g10, c10, rfl, hc10, hown10, hb10⟩
    have hB10 := below_after hB9 hb10
    have own10 := own_below own9 hb10
    clear hB9 hb10 sits9 own9
    rw [← List.length_append, ← rcells_append, hL] at own10
    have hlrq : L.length ≤ 4000 := by rw [← hL, List.length_append]; omega
    clear hL
    obtain ⟨A8, c8, rfl, hc8⟩ := own_shape own10
    have si1 := Lib.hid (Sits.own hown10)
    have si2 := Lib.hid (Sits.own own10)
    clear hown10 own10
    go_wp2_with fail
    refine (same_any _ A8 c10 c8 L L w10 si1.out si2.out (by unfold maxLen; omega) (by unfold maxLen; omega)).mono ?_
    rw [decide_eq_true (rfl : L = L)]
    rintro e w11 ⟨rfl, hb11⟩
    have hB11 := below_after hB10 hb11
    clear hB10 hb11 si1 si2
    go_wp2_with fail
    refine (is_any (s ++ t) w11 (by rw [ByteArray.size_append]; omega)).mono ?_
    rw [HDL.out, hisb.out]
    rintro e w12 ⟨rfl, hb12⟩
    have hB12 := below_after hB11 hb12
    clear hB11 hb12
    go_wp2_with fail
    refine (lives_any _).mono ?_
    rintro e w13 ⟨rfl, hb13⟩
    have hB13 := below_after hB12 hb13
    go_wp2_with fail
    go_ret
    exact ⟨rfl, hB13⟩

end Go.Proofs.Ytgkbgcaajfjjpaa
