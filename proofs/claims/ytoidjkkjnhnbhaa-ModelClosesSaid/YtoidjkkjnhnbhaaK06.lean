/- Parts of the proof, in build order: RunesR BytesR TextR RightR NamR ValR EndR ClsR. -/
import Derived.Test.YtoidjkkjnhnbhaaK05
import Derived.Test.YtoidjkkjnhnbhaaK02
import Derived.Test.YtoidjkkjnhnbhaaK03

/- Part RunesR. -/
namespace Go.Proofs.Ytoidjkkjnhnbhaa
open Go.RowKit
set_option linter.unusedVariables false

theorem info_rune : (Try.prog.info? 21).map (fun i => (i.zero, i.size, i.bytes)) = some (some (.int .i32 0), 1, 4) := by kernel_rfl

theorem byteCells_drop (l : List UInt8) (k j : Nat) : (Lib.byteCells (l.drop k))[j]? = (Lib.byteCells l)[k + j]? := by
  unfold Lib.byteCells
  rw [List.getElem?_map, List.getElem?_map, List.getElem?_drop]

/-- Characters as cells. -/
def rcells (l : List Int) : List Value := l.map (Value.int .i32)
theorem rcells_length (l : List Int) : (rcells l).length = l.length := by simp [rcells]
theorem rcells_append (a b : List Int) : rcells (a ++ b) = rcells a ++ rcells b := by simp [rcells]

set_option maxHeartbeats 1000000 in
set_option maxRecDepth 100000 in
theorem runesR_any (A : Option Addr) (c : Nat) (l : List UInt8) (w : World) (hs : Sits w w.heap.size A (Lib.byteCells l)) (hc : l.length ≤ c) (hm : l.length ≤ 1000000) :
    Calls Try.prog 53 #[.slice A l.length c] w fun e w' => ∃ A' c', e = .returned (.slice A' (runes l).length c') ∧ (runes l).length ≤ c' ∧
      w'.ownsRow w.heap.size 21 1 (.slice A' (runes l).length c') (runes l).length (rcells (runes l)) ∧ Below w.heap.size w w' := by
  obtain ⟨i0, hi, hz0, hz1, hz2⟩ := info_parts info_rune
  have HS := Lib.hid hs
  clear hs
  go_enter Try.func53, Try.ntmps53
  go_wp2
  go_loopw [3, 4] (fun v i wr => ∃ (k : Nat) (acc : List Int), k ≤ l.length ∧ i = .int .i64 k ∧ Hid (runes l = acc ++ runes (l.drop k)) ∧ acc.length ≤ k ∧ wr.ownsRow w.heap.size 21 1 v acc.length (rcells acc) ∧ Below w.heap.size w wr) (fun _ i _ => l.length - (intOf i).toNat)
  case atStart => exact ⟨0, [], by omega, rfl, Lib.hid (by simp), by simp, World.ownsRow_nil _ _ _ _, Below.refl _ _⟩
  case round =>
    obtain ⟨k, acc, hk, rfl, HR, hal, hown, hbel⟩ := hrel
    by_cases hlt : k < l.length
    · obtain ⟨b, o, rfl, hb, hcell⟩ := HS.out.open_ (by rw [Lib.byteCells_length]; omega)
      have hcell' : ∀ j u, (Lib.byteCells (l.drop k))[j]? = some u → wr.cell? ⟨b, o + k + j, none⟩ = some u := by
        intro j u hu
        rw [byteCells_drop] at hu
        rw [hbel.cell (p := ⟨b, o + k + j, none⟩) hb, Nat.add_assoc]
        exact hcell _ u hu
      have hw := dec_width (l := l.drop k) (by rw [List.length_drop]; omega)
      rw [List.length_drop] at hw
      have hst := runes_step (l := l.drop k) (by rw [List.length_drop]; omega)
      rw [List.drop_drop] at hst
      have HST := Lib.hid hst
      have HC := Lib.hid hcell'
      clear hst hcell' hcell
      go_wp2_with fail
      refine (one_sits HC.out (by rw [List.length_drop]) (by unfold maxLen; rw [List.length_drop]; omega) (by rw [List.length_drop]; omega)).mono ?_
      rintro e w' ⟨rfl, rfl⟩
      go_wp2_with (at_builtin; refine wpList_append_own _ rfl _ _ 65 rfl w.heap.size 21 i0 (.int .i32 0) 1 4 Try.underlying65 hi hz0 hz1 hz2 rfl (by decide) _ _ _ rfl (hown.alloc _) ⟨wr.heap.size, 0, none⟩ 1 1 [.int .i32 ((dec (l.drop k)).1 : Int)] rfl rfl (new_one _ _ _) (by simp [Value.oneCell']) (by unfold maxLen; omega) (by omega) (by have := hbel.size; simp; omega) ?_; intro v' w1 hown' hgrow _)
      have hB' : Below w.heap.size w w1 := (hbel.alloc hbel.size _).grown hgrow (by have := hbel.size; simp; omega) (fun g hg => (hown.lt g hg).1)
      clear hgrow hown
      go_roundw
      case rel =>
        refine ⟨k + (dec (l.drop k)).2, acc ++ [((dec (l.drop k)).1 : Int)], by omega, by go_num, Lib.hid ?_, by simp; omega, ?_, hB'⟩
        · rw [HR.out, HST.out, List.append_assoc]
          rfl
        · rw [rcells_append, List.length_append]
          exact hown'
      case measure => simp [intOf]; omega
    · have hr : runes l = acc := by
        have := HR.out
        rw [List.drop_of_length_le (by omega), runes_nil, List.append_nil] at this
        exact this
      obtain ⟨A', c', rfl, hcc⟩ := own_shape hown
      have HRR := Lib.hid hr
      clear hr
      go_wp2
      go_ret
      rw [HRR.out]
      exact ⟨A', c', rfl, hcc, hown, hbel⟩

end Go.Proofs.Ytoidjkkjnhnbhaa

/- Part BytesR. -/
namespace Go.Proofs.Ytoidjkkjnhnbhaa
open Go.RowKit
set_option linter.unusedVariables false

theorem lit_end (w : World) (r : Int) {cs : Array Value} {n : Nat} (hcs : cs.toList = Lib.runeCells r) (hn : cs.size = n) :
    ∃ A' c', Ending.returned (.slice (some ⟨w.heap.size, 0, none⟩) n n) = .returned (.slice A' (Lib.encodeRune r).length c') ∧ (Lib.encodeRune r).length ≤ c' ∧
      (w.alloc (.cells cs 5)).ownsRow w.heap.size 5 1 (.slice A' (Lib.encodeRune r).length c') (Lib.encodeRune r).length (Lib.byteCells (Lib.encodeRune r)) ∧ Below w.heap.size w (w.alloc (.cells cs 5)) := by
  have hl := Lib.runeCells_le r
  have h1 : (Lib.encodeRune r).length = n := by rw [← Lib.runeCells_length, ← hcs, ← hn]; simp
  refine ⟨_, n, by rw [h1], by omega, ?_, (Below.refl _ _).alloc (Nat.le_refl _) _⟩
  rw [Lib.byteCells_encodeRune, ← hcs, h1]
  rw [Lib.runeCells_length] at hl
  exact own_lit w 5 cs n hn (by unfold maxLen; omega)

set_option maxHeartbeats 1000000 in
set_option maxRecDepth 100000 in
theorem bytes_a (r : Int) (w : World) (h0 : -2147483648 ≤ r) (h1 : r ≤ -1) :
    Calls Try.prog 81 #[.int .i32 r] w fun e w' => ∃ A' c', e = .returned (.slice A' (Lib.encodeRune r).length c') ∧ (Lib.encodeRune r).length ≤ c' ∧
      w'.ownsRow w.heap.size 5 1 (.slice A' (Lib.encodeRune r).length c') (Lib.encodeRune r).length (Lib.byteCells (Lib.encodeRune r)) ∧ Below w.heap.size w w' := by
  go_enter Try.func81, Try.ntmps81
  go_wp2
  go_ret
  exact lit_end w r (by unfold Lib.runeCells; rw [Lib.encodeRuneZ_bad (by omega)]; rfl) rfl

set_option maxHeartbeats 1000000 in
set_option maxRecDepth 100000 in
theorem bytes_b (r : Int) (w : World) (h0 : 0 ≤ r) (h1 : r ≤ 127) :
    Calls Try.prog 81 #[.int .i32 r] w fun e w' => ∃ A' c', e = .returned (.slice A' (Lib.encodeRune r).length c') ∧ (Lib.encodeRune r).length ≤ c' ∧
      w'.ownsRow w.heap.size 5 1 (.slice A' (Lib.encodeRune r).length c') (Lib.encodeRune r).length (Lib.byteCells (Lib.encodeRune r)) ∧ Below w.heap.size w w' := by
  go_enter Try.func81, Try.ntmps81
  go_wp2
  go_ret
  exact lit_end w r (by unfold Lib.runeCells; rw [Lib.encodeRuneZ_one (by omega) (by omega)]; rfl) rfl

set_option maxHeartbeats 1000000 in
set_option maxRecDepth 100000 in
theorem bytes_c (r : Int) (w : World) (h0 : 128 ≤ r) (h1 : r ≤ 2047) :
    Calls Try.prog 81 #[.int .i32 r] w fun e w' => ∃ A' c', e = .returned (.slice A' (Lib.encodeRune r).length c') ∧ (Lib.encodeRune r).length ≤ c' ∧
      w'.ownsRow w.heap.size 5 1 (.slice A' (Lib.encodeRune r).length c') (Lib.encodeRune r).length (Lib.byteCells (Lib.encodeRune r)) ∧ Below w.heap.size w w' := by
  go_enter Try.func81, Try.ntmps81
  go_wp2
  go_ret
  exact lit_end w r (by unfold Lib.runeCells; rw [Lib.encodeRuneZ_two (by omega) (by omega)]; rfl) rfl

set_option maxHeartbeats 1000000 in
set_option maxRecDepth 100000 in
theorem bytes_d (r : Int) (w : World) (h0 : 2048 ≤ r) (h1 : r ≤ 55295) :
    Calls Try.prog 81 #[.int .i32 r] w fun e w' => ∃ A' c', e = .returned (.slice A' (Lib.encodeRune r).length c') ∧ (Lib.encodeRune r).length ≤ c' ∧
      w'.ownsRow w.heap.size 5 1 (.slice A' (Lib.encodeRune r).length c') (Lib.encodeRune r).length (Lib.byteCells (Lib.encodeRune r)) ∧ Below w.heap.size w w' := by
  go_enter Try.func81, Try.ntmps81
  go_wp2
  go_ret
  exact lit_end w r (by unfold Lib.runeCells; rw [Lib.encodeRuneZ_three (by omega)]; rfl) rfl

set_option maxHeartbeats 1000000 in
set_option maxRecDepth 100000 in
theorem bytes_e (r : Int) (w : World) (h0 : 55296 ≤ r) (h1 : r ≤ 57343) :
    Calls Try.prog 81 #[.int .i32 r] w fun e w' => ∃ A' c', e = .returned (.slice A' (Lib.encodeRune r).length c') ∧ (Lib.encodeRune r).length ≤ c' ∧
      w'.ownsRow w.heap.size 5 1 (.slice A' (Lib.encodeRune r).length c') (Lib.encodeRune r).length (Lib.byteCells (Lib.encodeRune r)) ∧ Below w.heap.size w w' := by
  go_enter Try.func81, Try.ntmps81
  go_wp2
  go_ret
  exact lit_end w r (by unfold Lib.runeCells; rw [Lib.encodeRuneZ_bad (by omega)]; rfl) rfl

set_option maxHeartbeats 1000000 in
set_option maxRecDepth 100000 in
theorem bytes_f (r : Int) (w : World) (h0 : 57344 ≤ r) (h1 : r ≤ 65535) :
    Calls Try.prog 81 #[.int .i32 r] w fun e w' => ∃ A' c', e = .returned (.slice A' (Lib.encodeRune r).length c') ∧ (Lib.encodeRune r).length ≤ c' ∧
      w'.ownsRow w.heap.size 5 1 (.slice A' (Lib.encodeRune r).length c') (Lib.encodeRune r).length (Lib.byteCells (Lib.encodeRune r)) ∧ Below w.heap.size w w' := by
  go_enter Try.func81, Try.ntmps81
  go_wp2
  go_ret
  exact lit_end w r (by unfold Lib.runeCells; rw [Lib.encodeRuneZ_three (by omega)]; rfl) rfl

set_option maxHeartbeats 1000000 in
set_option maxRecDepth 100000 in
theorem bytes_g (r : Int) (w : World) (h0 : 65536 ≤ r) (h1 : r ≤ 1114111) :
    Calls Try.prog 81 #[.int .i32 r] w fun e w' => ∃ A' c', e = .returned (.slice A' (Lib.encodeRune r).length c') ∧ (Lib.encodeRune r).length ≤ c' ∧
      w'.ownsRow w.heap.size 5 1 (.slice A' (Lib.encodeRune r).length c') (Lib.encodeRune r).length (Lib.byteCells (Lib.encodeRune r)) ∧ Below w.heap.size w w' := by
  go_enter Try.func81, Try.ntmps81
  go_wp2
  go_ret
  exact lit_end w r (by unfold Lib.runeCells; rw [Lib.encodeRuneZ_four (by omega) (by omega)]; rfl) rfl

set_option maxHeartbeats 1000000 in
set_option maxRecDepth 100000 in
theorem bytes_h (r : Int) (w : World) (h0 : 1114112 ≤ r) (h1 : r ≤ 2147483647) :
    Calls Try.prog 81 #[.int .i32 r] w fun e w' => ∃ A' c', e = .returned (.slice A' (Lib.encodeRune r).length c') ∧ (Lib.encodeRune r).length ≤ c' ∧
      w'.ownsRow w.heap.size 5 1 (.slice A' (Lib.encodeRune r).length c') (Lib.encodeRune r).length (Lib.byteCells (Lib.encodeRune r)) ∧ Below w.heap.size w w' := by
  go_enter Try.func81, Try.ntmps81
  go_wp2
  go_ret
  exact lit_end w r (by unfold Lib.runeCells; rw [Lib.encodeRuneZ_bad (by omega)]; rfl) rfl

theorem bytes_any (r : Int) (w : World) (h0 : -2147483648 ≤ r) (h1 : r ≤ 2147483647) :
    Calls Try.prog 81 #[.int .i32 r] w fun e w' => ∃ A' c', e = .returned (.slice A' (Lib.encodeRune r).length c') ∧ (Lib.encodeRune r).length ≤ c' ∧
      w'.ownsRow w.heap.size 5 1 (.slice A' (Lib.encodeRune r).length c') (Lib.encodeRune r).length (Lib.byteCells (Lib.encodeRune r)) ∧ Below w.heap.size w w' := by
  by_cases aa : r ≤ -1
  · exact bytes_a r w (by omega) aa
  by_cases ab : r ≤ 127
  · exact bytes_b r w (by omega) ab
  by_cases ac : r ≤ 2047
  · exact bytes_c r w (by omega) ac
  by_cases ad : r ≤ 55295
  · exact bytes_d r w (by omega) ad
  by_cases ae : r ≤ 57343
  · exact bytes_e r w (by omega) ae
  by_cases af : r ≤ 65535
  · exact bytes_f r w (by omega) af
  by_cases ag : r ≤ 1114111
  · exact bytes_g r w (by omega) ag
  exact bytes_h r w (by omega) h1

theorem info_byte : (Try.prog.info? 5).map (fun i => (i.zero, i.size, i.bytes)) = some (some (.int .u8 0), 1, 1) := by kernel_rfl

end Go.Proofs.Ytoidjkkjnhnbhaa

/- Part TextR. -/
namespace Go.Proofs.Ytoidjkkjnhnbhaa
open Go.RowKit
set_option linter.unusedVariables false

set_option maxHeartbeats 1000000 in
set_option maxRecDepth 100000 in
theorem textR_any (A : Option Addr) (c : Nat) (l : List Int) (w : World) (hs : Sits w w.heap.size A (rcells l)) (hc : l.length ≤ c) (hm : l.length ≤ 1000000) (h32 : i32s l) :
    Calls Try.prog 54 #[.slice A l.length c] w fun e w' => e = .returned (.string ⟨(enc l).toArray⟩) ∧ Below w.heap.size w w' := by
  obtain ⟨i0, hi, hz0, hz1, hz2⟩ := info_parts info_byte
  have HS := Lib.hid hs
  have H32 := Lib.hid h32
  clear hs h32
  go_enter Try.func54, Try.ntmps54
  go_wp2
  go_loopw [3, 4] (fun v i wr => ∃ (k : Nat) (acc : List UInt8), k ≤ l.length ∧ i = .int .i64 k ∧ Hid (enc l = acc ++ enc (l.drop k)) ∧ acc.length ≤ 4 * k ∧ wr.ownsRow w.heap.size 5 1 v acc.length (Lib.byteCells acc) ∧ Below w.heap.size w wr) (fun _ i _ => l.length - (intOf i).toNat)
  case atStart => exact ⟨0, [], by omega, rfl, Lib.hid (by simp), by simp, World.ownsRow_nil _ _ _ _, Below.refl _ _⟩
  case round =>
    obtain ⟨k, acc, hk, rfl, HR, hal, hown, hbel⟩ := hrel
    by_cases hlt : k < l.length
    · obtain ⟨b, o, rfl, hb, hcell⟩ := HS.out.open_ (by rw [rcells_length]; omega)
      obtain ⟨x, hx⟩ : ∃ x, l[k]? = some x := ⟨_, List.getElem?_eq_getElem hlt⟩
      have q1 : wr.cell? ⟨b, o + k, none⟩ = some (.int .i32 x) := (hbel.cell (p := ⟨b, o + k, none⟩) hb).trans (hcell k _ (by simp [rcells, hx]))
      have hx32 := i32s_at H32.out hx
      have HX := Lib.hid hx
      clear hcell hx
      go_wp2_with fail
      refine (bytes_any x wr hx32.1 hx32.2).mono ?_
      rintro e w1 ⟨A1, c1, rfl, hcc, hown1, hb1⟩
      have hl4 := Lib.runeCells_le x
      rw [Lib.runeCells_length] at hl4
      obtain ⟨g, rfl, hnews⟩ := own_addr hown1 (by omega)
      have hown2 := own_below hown hb1
      have hB1 := below_after hbel hb1
      clear hown1 hown hb1 q1
      obtain ⟨m, hm'⟩ : ∃ m, m = (Lib.encodeRune x).length := ⟨_, rfl⟩
      rw [← hm'] at hcc hl4 ⊢
      have HM := Lib.hid hm'
      clear hm'
      go_wp2_with (at_builtin; refine wpList_append_own _ rfl _ _ 52 rfl w.heap.size 5 i0 (.int .u8 0) 1 1 Try.underlying52 hi hz0 hz1 hz2 rfl (by decide) _ _ _ rfl hown2 ⟨g, 0, none⟩ m c1 (Lib.byteCells (Lib.encodeRune x)) rfl (by rw [Lib.byteCells_length, HM.out]; omega) hnews (byteCells_one _) (by unfold maxLen; omega) (by omega) hB1.size ?_; intro v' w2 hown' hgrow _)
      have hB2 : Below w.heap.size w w2 := hB1.grown hgrow hB1.size (fun g hg => (hown2.lt g hg).1)
      clear hgrow hown2 hnews
      go_roundw
      case rel =>
        refine ⟨k + 1, acc ++ Lib.encodeRune x, by omega, by go_num, Lib.hid ?_, by have := HM.out; simp; omega, ?_, hB2⟩
        · rw [HR.out, drop_at HX.out, enc_cons, List.append_assoc]
        · rw [Lib.byteCells_append, List.length_append, ← HM.out]
          exact hown'
      case measure => simp [intOf]; omega
    · have hr : enc l = acc := by
        have := HR.out
        rw [List.drop_of_length_le (by omega), enc_nil, List.append_nil] at this
        exact this
      obtain ⟨A', c', rfl, hcc⟩ := own_shape hown
      have HRR := Lib.hid hr
      clear hr
      have kc := convert_bytes (A := A') (c := c') (B := wr.heap.size) (Sits.own hown)
      go_wp2
      go_ret
      rw [HRR.out]
      exact ⟨rfl, hbel⟩

end Go.Proofs.Ytoidjkkjnhnbhaa

/- Part RightR. -/
namespace Go.Proofs.Ytoidjkkjnhnbhaa
open Go.RowKit
set_option linter.unusedVariables false

/-- The character ahead of the k-th, or 0. -/
def prev (R : List Int) (k : Nat) : Int := if k = 0 then 0 else R.getD (k - 1) 0

theorem prev_zero (R : List Int) : prev R 0 = 0 := rfl
theorem prev_succ {R : List Int} {k : Nat} {x : Int} (h : R[k]? = some x) : prev R (k + 1) = x := by
  unfold prev
  rw [if_neg (by omega), Nat.add_sub_cancel, List.getD_eq_getElem?_getD, h]
  rfl

theorem okR_i32 {l : List Int} (h : ∀ r ∈ l, okR r) : i32s l := by
  intro r hr
  have := h r hr
  unfold okR at this
  omega

structure RightRAt (w1 wr : World) (R : List Int) (v : Value) (k : Nat) (acc : List Int) : Prop where
  le : k ≤ R.length
  is : norm 0 R = acc ++ norm (prev R k) (R.drop k)
  len : acc.length ≤ k
  own : wr.ownsRow w1.heap.size 21 1 v acc.length (rcells acc)
  bel : Below w1.heap.size w1 wr

/-- A character is appended. -/
theorem RightRAt.put {w1 wr w2 : World} {R : List Int} {v v' : Value} {k : Nat} {acc : List Int} {x y : Int} {o : Obj} (h : RightRAt w1 wr R v k acc) (hx : R[k]? = some x)
    (hn : ∀ t, norm (prev R k) (x :: t) = y :: norm x t) (hown : w2.ownsRow w1.heap.size 21 1 v' (acc.length + 1) (rcells acc ++ [.int .i32 y])) (hg : (wr.alloc o).grownBy w2 v.ownBlock) :
    RightRAt w1 w2 R v' (k + 1) (acc ++ [y]) := by
  have hk := (List.getElem?_eq_some_iff.1 hx).1
  refine ⟨by omega, ?_, by have := h.len; simp; omega, ?_, ?_⟩
  · rw [h.is, drop_at hx, hn, prev_succ hx, List.append_assoc]
    rfl
  · rw [rcells_append, List.length_append]
    exact hown
  · exact (h.bel.alloc h.bel.size _).grown hg (by have := h.bel.size; simp; omega) (fun g hg => (h.own.lt g hg).1)

/-- A character is passed over. -/
theorem RightRAt.pass {w1 wr : World} {R : List Int} {v : Value} {k : Nat} {acc : List Int} (h : RightRAt w1 wr R v k acc) (hx : R[k]? = some 10) (hp : prev R k = 13) : RightRAt w1 wr R v (k + 1) acc := by
  have hk := (List.getElem?_eq_some_iff.1 hx).1
  refine ⟨by omega, ?_, by have := h.len; omega, h.own, h.bel⟩
  rw [h.is, drop_at hx, hp, norm_10, prev_succ hx]

set_option maxHeartbeats 2000000 in
set_option maxRecDepth 100000 in
theorem rightR_any (A : Option Addr) (c : Nat) (l : List UInt8) (w : World) (hs : Sits w w.heap.size A (Lib.byteCells l)) (hc : l.length ≤ c) (hm : l.length ≤ 1000000) :
    Calls Try.prog 34 #[.slice A l.length c] w fun e w' => e = .returned (.string ⟨(right l).toArray⟩) ∧ Below w.heap.size w w' := by
  obtain ⟨i0, hi, hz0, hz1, hz2⟩ := info_parts info_rune
  have hrl := runes_len _ l (Nat.le_refl _)
  have hrok := runes_ok _ l (Nat.le_refl _)
  go_enter Try.func34, Try.ntmps34
  go_wp2_with fail
  refine (runesR_any A c l _ hs hc hm).mono ?_
  rintro e w1 ⟨A1, c1, rfl, hc1, hown1, hb1⟩
  have hsit := Lib.hid (Sits.own hown1)
  clear hown1 hs
  obtain ⟨R, hR⟩ : ∃ R, R = runes l := ⟨_, rfl⟩
  rw [← hR] at hc1 hsit hrl hrok ⊢
  have hfin : right l = enc (norm 0 R) := by rw [hR]; rfl
  have HF := Lib.hid hfin
  have HK := Lib.hid hrok
  clear hR hfin hrok
  go_wp2_with fail
  go_loopw [4, 5] (fun v i wr => ∃ (k : Nat) (acc : List Int), i = .int .i64 k ∧ RightRAt w1 wr R v k acc) (fun _ i _ => R.length - (intOf i).toNat)
  case atStart => exact ⟨0, [], rfl, by omega, by rw [prev_zero]; rfl, by simp, World.ownsRow_nil _ _ _ _, Below.refl _ _⟩
  case round =>
    obtain ⟨k, acc, rfl, HR⟩ := hrel
    have hle := HR.le
    have hlen := HR.len
    by_cases hlt : k < R.length
    · obtain ⟨b, o, rfl, hb, hcell⟩ := hsit.out.open_ (by rw [rcells_length]; omega)
      obtain ⟨x, hx⟩ : ∃ x, R[k]? = some x := ⟨_, List.getElem?_eq_getElem hlt⟩
      have q1 : wr.cell? ⟨b, o + k, none⟩ = some (.int .i32 x) := (HR.bel.cell (p := ⟨b, o + k, none⟩) hb).trans (hcell k _ (by simp [rcells, hx]))
      have HX := Lib.hid hx
      clear hx
      by_cases h10 : x = 10
      · subst h10
        by_cases hk0 : k = 0
        · have hkf : decide ((0 : Int) < (k : Int)) = false := by simp [hk0]
          have hkn : ¬ (0 : Int) < (k : Int) := by omega
          have HK0 := Lib.hid hk0
          clear hcell hk0
          go_wp2_with (at_builtin; refine wpList_append_own _ rfl _ _ 65 rfl w1.heap.size 21 i0 (.int .i32 0) 1 4 Try.underlying65 hi hz0 hz1 hz2 rfl (by decide) _ _ _ rfl (HR.own.alloc _) ⟨wr.heap.size, 0, none⟩ 1 1 [.int .i32 10] rfl rfl (new_one _ _ _) (by simp [Value.oneCell']) (by unfold maxLen; omega) (by omega) (by have := HR.bel.size; simp; omega) ?_; intro v' w2 hown' hgrow _)
          have HR2 := HR.put HX.out (fun t => by rw [HK0.out, prev_zero]; exact norm_r t (by omega) (by omega) (by omega)) hown' hgrow
          clear hgrow hown'
          go_roundw
          case rel => exact ⟨k + 1, acc ++ [10], by go_num, HR2⟩
          case measure => simp [intOf]; omega

        · have hkp : 0 < k := by omega
          have hkp' : (0 : Int) < (k : Int) := by omega
          obtain ⟨p, hp⟩ : ∃ p, R[k - 1]? = some p := ⟨_, List.getElem?_eq_getElem (by omega)⟩
          have hpr : prev R k = p := by
            unfold prev
            rw [if_neg hk0, List.getD_eq_getElem?_getD, hp]
            rfl
          have q2 : wr.cell? ⟨b, o + (k - 1), none⟩ = some (.int .i32 p) := (HR.bel.cell (p := ⟨b, o + (k - 1), none⟩) hb).trans (hcell (k - 1) _ (by simp [rcells, hp]))
          have HP := Lib.hid hpr
          clear hpr hp hcell
          have i1 : (0 : Int) ≤ (k : Int) - 1 := by omega
          have i2 : (k : Int) - 1 < (R.length : Int) := by omega
          by_cases h13 : p = 13
          · subst h13
            go_wp2
            go_roundw
            case rel => exact ⟨k + 1, acc, by go_num, HR.pass HX.out HP.out⟩
            case measure => simp [intOf]; omega
          · have B13 : (p == 13) = false := by simp [h13]
            go_wp2_with (at_builtin; refine wpList_append_own _ rfl _ _ 65 rfl w1.heap.size 21 i0 (.int .i32 0) 1 4 Try.underlying65 hi hz0 hz1 hz2 rfl (by decide) _ _ _ rfl (HR.own.alloc _) ⟨wr.heap.size, 0, none⟩ 1 1 [.int .i32 10] rfl rfl (new_one _ _ _) (by simp [Value.oneCell']) (by unfold maxLen; omega) (by omega) (by have := HR.bel.size; simp; omega) ?_; intro v' w2 hown' hgrow _)
            have HR2 := HR.put HX.out (fun t => by rw [HP.out]; exact norm_r t (by omega) (by omega) (by omega)) hown' hgrow
            clear hgrow hown'
            go_roundw
            case rel => exact ⟨k + 1, acc ++ [10], by go_num, HR2⟩
            case measure => simp [intOf]; omega

      · have B10 : (x == 10) = false := by simp [h10]
        clear hcell
        by_cases h13 : x = 13
        · subst h13
          go_wp2_with (at_builtin; refine wpList_append_own _ rfl _ _ 65 rfl w1.heap.size 21 i0 (.int .i32 0) 1 4 Try.underlying65 hi hz0 hz1 hz2 rfl (by decide) _ _ _ rfl (HR.own.alloc _) ⟨wr.heap.size, 0, none⟩ 1 1 [.int .i32 10] rfl rfl (new_one _ _ _) (by simp [Value.oneCell']) (by unfold maxLen; omega) (by omega) (by have := HR.bel.size; simp; omega) ?_; intro v' w2 hown' hgrow _)
          have HR2 := HR.put HX.out (fun t => norm_13 _ t) hown' hgrow
          clear hgrow hown'
          go_roundw
          case rel => exact ⟨k + 1, acc ++ [10], by go_num, HR2⟩
          case measure => simp [intOf]; omega

        · have B13 : (x == 13) = false := by simp [h13]
          by_cases h0 : x = 0
          · subst h0
            go_wp2_with (at_builtin; refine wpList_append_own _ rfl _ _ 65 rfl w1.heap.size 21 i0 (.int .i32 0) 1 4 Try.underlying65 hi hz0 hz1 hz2 rfl (by decide) _ _ _ rfl (HR.own.alloc _) ⟨wr.heap.size, 0, none⟩ 1 1 [.int .i32 65533] rfl rfl (new_one _ _ _) (by simp [Value.oneCell']) (by unfold maxLen; omega) (by omega) (by have := HR.bel.size; simp; omega) ?_; intro v' w2 hown' hgrow _)
            have HR2 := HR.put HX.out (fun t => norm_0 _ t) hown' hgrow
            clear hgrow hown'
            go_roundw
            case rel => exact ⟨k + 1, acc ++ [65533], by go_num, HR2⟩
            case measure => simp [intOf]; omega

          · have B0 : (x == 0) = false := by simp [h0]
            have HN := Lib.hid (fun (t : List Int) => norm_r (a := prev R k) (r := x) t h13 (by omega) h0)
            clear h13 h10 h0
            go_wp2_with (at_builtin; refine wpList_append_own _ rfl _ _ 65 rfl w1.heap.size 21 i0 (.int .i32 0) 1 4 Try.underlying65 hi hz0 hz1 hz2 rfl (by decide) _ _ _ rfl (HR.own.alloc _) ⟨wr.heap.size, 0, none⟩ 1 1 [.int .i32 x] rfl rfl (new_one _ _ _) (by simp [Value.oneCell']) (by unfold maxLen; omega) (by omega) (by have := HR.bel.size; simp; omega) ?_; intro v' w2 hown' hgrow _)
            have HR2 := HR.put HX.out HN.out hown' hgrow
            clear hgrow hown'
            go_roundw
            case rel => exact ⟨k + 1, acc ++ [x], by go_num, HR2⟩
            case measure => simp [intOf]; omega

    · have hr : norm 0 R = acc := by
        have := HR.is
        rw [List.drop_of_length_le (by omega)] at this
        simpa [norm] using this
      obtain ⟨A', c', rfl, hcc⟩ := own_shape HR.own
      have HRR := Lib.hid hr
      have hok : ∀ r ∈ acc, okR r := by
        intro r hr'
        rw [← hr] at hr'
        exact (norm_ok R 0 HK.out r hr').1
      have h32 := okR_i32 hok
      have hsit2 := Sits.own HR.own
      clear hr hok
      go_wp2_with fail
      refine (textR_any A' c' acc wr hsit2 hcc (by omega) h32).mono ?_
      rintro e w2 ⟨rfl, hb2⟩
      have hB2 := below_after (below_after hb1 HR.bel) hb2
      go_wp2
      go_ret
      rw [HF.out, HRR.out]
      exact ⟨rfl, hB2⟩

end Go.Proofs.Ytoidjkkjnhnbhaa

/- Part NamR. -/
namespace Go.Proofs.Ytoidjkkjnhnbhaa
open Go.RowKit
set_option linter.unusedVariables false

theorem eq_two (a b : ByteArray) : (a.toList == b.toList) = decide (a.data.toList = b.data.toList) := by
  rw [Lib.toList_data, Lib.toList_data]
  by_cases h : a.data.toList = b.data.toList
  · rw [h]; simp
  · rw [decide_eq_false h, beq_eq_false_iff_ne]
    exact h

set_option maxHeartbeats 1000000 in
theorem isR_any (s : ByteArray) (w : World) (hm : s.size ≤ 100000) :
    Calls Try.prog 64 #[.string s] w fun e w' => e = .returned (.bool (isB s.data.toList)) ∧ Below w.heap.size w w' := by
  have kb := fun (w : World) (s : ByteArray) => run_bytes_of_string (P := Try.prog) w 9 52 5 s Try.underlying9 Try.underlying52 Try.underlying5
  obtain ⟨l, hl⟩ : ∃ l, s.data.toList = l := ⟨_, rfl⟩
  have hlz : s.size = l.length := by rw [← hl]; simp
  have hrl := right_len l
  obtain ⟨r, hr⟩ : ∃ r, right l = r := ⟨_, rfl⟩
  obtain ⟨t, ht, htl, htz⟩ := str_of r
  obtain ⟨q, hq⟩ : ∃ q, isB l = q := ⟨_, rfl⟩
  have he : (t.toList == s.toList) = q := by rw [eq_two, htl, hl, ← hq, isB_iff, hr]
  rw [hl, hq]
  have HL := Lib.hid hl
  have HZ := Lib.hid hlz
  have HR := Lib.hid hr
  have HT := Lib.hid ht
  clear hl hr ht htl hq htz hlz
  go_enter Try.func64, Try.ntmps64
  go_wp2_with fail
  obtain ⟨w2, hw2, sits2, hb2⟩ := sits_conv (w := w) HL.out
  rw [hw2]
  have hcap := grownCap_ge w s.size 0 5
  rw [HZ.out] at hcap ⊢
  clear hw2
  refine (rightR_any _ _ l w2 sits2 hcap (by have := HZ.out; omega)).mono ?_
  rw [HR.out, HT.out]
  rintro e w3 ⟨rfl, hb3⟩
  have hB3 := below_after hb2 hb3
  clear hb2 hb3 sits2 hcap
  cases q with
  | true =>
    go_wp2_with fail
    go_ret
    exact ⟨rfl, hB3⟩
  | false =>
    go_wp2_with fail
    go_ret
    exact ⟨rfl, hB3⟩

/-- The first 30 bytes. -/
def few3S (s : ByteArray) : ByteArray := if 30 < s.size then s.extract 0 30 else s
theorem few3S_size (s : ByteArray) : (few3S s).size ≤ 30 := by
  unfold few3S
  split
  · rw [ByteArray.size_extract]; omega
  · omega

set_option maxHeartbeats 400000 in
theorem few3_any (s : ByteArray) (w : World) (hm : s.size ≤ maxLen) :
    Calls Try.prog 33 #[.string s] w fun e w' => e = .returned (.string (few3S s)) ∧ w = w' := by
  unfold maxLen at hm
  by_cases h : 30 < s.size
  · have hf := Lib.hid (show few3S s = s.extract 0 30 by unfold few3S; rw [if_pos h])
    go_enter Try.func33, Try.ntmps33
    go_wp2
    go_ret
    exact ⟨by rw [hf.out]; rfl, rfl⟩
  · have hf := Lib.hid (show few3S s = s by unfold few3S; rw [if_neg h])
    go_enter Try.func33, Try.ntmps33
    go_wp2
    go_ret
    exact ⟨by rw [hf.out]; rfl, rfl⟩

set_option maxHeartbeats 400000 in
theorem small3_any (c : UInt8) (w : World) :
    Calls Try.prog 82 #[.int .u8 c.toNat] w fun e w' => e = .returned (.bool (smC c)) ∧ w = w' := by
  by_cases h1 : 97 ≤ c.toNat
  · by_cases h2 : c.toNat ≤ 122
    · have hs := Lib.hid (show smC c = true by unfold smC; simp [h1, h2])
      have hd : decide ((c.toNat : Int) ≤ 122) = true := by simp; omega
      go_enter Try.func82, Try.ntmps82
      go_wp2
      go_ret
      exact ⟨by rw [hs.out]; rfl, rfl⟩
    · have hs := Lib.hid (show smC c = false by unfold smC; simp [h1]; omega)
      have hd : decide ((c.toNat : Int) ≤ 122) = false := by simp; omega
      go_enter Try.func82, Try.ntmps82
      go_wp2
      go_ret
      exact ⟨by rw [hs.out]; rfl, rfl⟩
  · have hs := Lib.hid (show smC c = false by unfold smC; simp; omega)
    go_enter Try.func82, Try.ntmps82
    go_wp2
    go_ret
    exact ⟨by rw [hs.out]; rfl, rfl⟩

theorem eqs (s : ByteArray) (l : List UInt8) : (s.toList == l) = decide (s.data.toList = l) := by
  rw [Lib.toList_data]
  by_cases h : s.data.toList = l
  · rw [h]; simp
  · rw [decide_eq_false h, beq_eq_false_iff_ne]
    exact h

set_option maxHeartbeats 400000 in
theorem rawR_any (s : ByteArray) (w : World) :
    Calls Try.prog 66 #[.string s] w fun e w' => e = .returned (.bool (rawB s.data.toList)) ∧ w = w' := by
  have h1 := eqs s [115, 99, 114, 105, 112, 116]
  have h2 := eqs s [115, 116, 121, 108, 101]
  obtain ⟨q1, e1⟩ : ∃ q, decide (s.data.toList = [115, 99, 114, 105, 112, 116]) = q := ⟨_, rfl⟩
  obtain ⟨q2, e2⟩ : ∃ q, decide (s.data.toList = [115, 116, 121, 108, 101]) = q := ⟨_, rfl⟩
  have HF := Lib.hid (show rawB s.data.toList = (q1 || q2) by unfold rawB; rw [e1, e2])
  rw [e1] at h1
  rw [e2] at h2
  clear e1 e2
  cases q1 <;> cases q2
  all_goals
    go_enter Try.func66, Try.ntmps66
    go_wp2
    go_ret
    exact ⟨by rw [HF.out]; rfl, rfl⟩

set_option maxHeartbeats 1000000 in
theorem voidR_any (s : ByteArray) (w : World) :
    Calls Try.prog 65 #[.string s] w fun e w' => e = .returned (.bool (voidB s.data.toList)) ∧ w = w' := by
  have h1 := eqs s [98, 114]
  have h2 := eqs s [104, 114]
  have h3 := eqs s [105, 109, 103]
  have h4 := eqs s [105, 110, 112, 117, 116]
  have h5 := eqs s [119, 98, 114]
  obtain ⟨q1, e1⟩ : ∃ q, decide (s.data.toList = [98, 114]) = q := ⟨_, rfl⟩
  obtain ⟨q2, e2⟩ : ∃ q, decide (s.data.toList = [104, 114]) = q := ⟨_, rfl⟩
  obtain ⟨q3, e3⟩ : ∃ q, decide (s.data.toList = [105, 109, 103]) = q := ⟨_, rfl⟩
  obtain ⟨q4, e4⟩ : ∃ q, decide (s.data.toList = [105, 110, 112, 117, 116]) = q := ⟨_, rfl⟩
  obtain ⟨q5, e5⟩ : ∃ q, decide (s.data.toList = [119, 98, 114]) = q := ⟨_, rfl⟩
  have HF := Lib.hid (show voidB s.data.toList = (q1 || q2 || q3 || q4 || q5) by unfold voidB; rw [e1, e2, e3, e4, e5])
  rw [e1] at h1
  rw [e2] at h2
  rw [e3] at h3
  rw [e4] at h4
  rw [e5] at h5
  clear e1 e2 e3 e4 e5
  cases q1
  case' false => cases q2
  case' false.false => cases q3
  case' false.false.false => cases q4
  case' false.false.false.false => cases q5
  all_goals
    go_enter Try.func65, Try.ntmps65
    go_wp2
    go_ret
    exact ⟨by rw [HF.out]; first | rfl | (simp only [Bool.true_or, Bool.false_or]; rfl), rfl⟩

end Go.Proofs.Ytoidjkkjnhnbhaa

/- Part ValR. -/
namespace Go.Proofs.Ytoidjkkjnhnbhaa
open Go.RowKit
set_option linter.unusedVariables false

/-- The value of the first attribute of a name. -/
def valA : List (ByteArray × ByteArray) → ByteArray → Option ByteArray
  | [], _ => none
  | a :: l, x => if a.1 = x then some a.2 else valA l x
theorem valA_none {l : List (ByteArray × ByteArray)} {x : ByteArray} : valA l x = none ↔ ∀ a ∈ l, a.1 ≠ x := by
  induction l with
  | nil => simp [valA]
  | cons a l ih =>
    unfold valA
    by_cases h : a.1 = x
    · simp [h]
    · simp [h, ih]
theorem valA_at {l : List (ByteArray × ByteArray)} {x : ByteArray} {k : Nat} {a : ByteArray × ByteArray} (h : ∀ b ∈ l.take k, b.1 ≠ x) (hk : l[k]? = some a) (ha : a.1 = x) : valA l x = some a.2 := by
  induction l generalizing k with
  | nil => simp at hk
  | cons b l ih =>
    cases k with
    | zero =>
      simp at hk
      subst hk
      unfold valA
      rw [if_pos ha]
    | succ k =>
      have hb := h b (by simp)
      unfold valA
      rw [if_neg hb]
      exact ih (k := k) (fun y hy => h y (by simp [hy])) (by simpa using hk)

theorem str_eq (a b : ByteArray) : (a.toList == b.toList) = decide (a = b) := by
  rw [eq_two]
  congr 1
  rw [eq_iff_iff]
  constructor
  · intro h
    apply ByteArray.ext
    exact Array.toList_inj.1 h
  · intro h
    rw [h]

structure ValAt (w wr : World) (l : List (ByteArray × ByteArray)) (x : ByteArray) (k : Nat) : Prop where
  le : k ≤ l.length
  is : ∀ b ∈ l.take k, b.1 ≠ x
  bel : Below w.heap.size w wr
  slot : True
def ValRel (w : World) (W : World) (l : List (ByteArray × ByteArray)) (x : ByteArray) (y : Value) (wr : World) : Prop := ∃ k : Nat, y = .int .i64 k ∧ ValAt w wr l x k ∧ wr = W

theorem ret_sb {a a' : ByteArray} {b b' : Bool} (h : a = a') (h' : b = b') : Ending.returned (.tuple #[.string a, .bool b]) = .returned (.tuple #[.string a', .bool b']) := by rw [h, h']

set_option maxHeartbeats 2000000 in
theorem valueR_any (S : Nat → Prop) (kind : Int) (nm tx : ByteArray) (l : List (ByteArray × ByteArray)) (va vk : Value) (x : ByteArray) (w : World) (hat : AttrsAt S w l va) (hS : ∀ b, S b → b < w.heap.size) (hsz : szA l ≤ 1000000) :
    Calls Try.prog 37 #[.agg #[.int .i64 kind, .string nm, va, .string tx, vk], .string x] w fun e w' =>
      e = .returned (.tuple #[.string ((valA l x).getD ⟨#[]⟩), .bool (valA l x).isSome]) ∧ Below w.heap.size w w' := by
  have hln := szA_len l
  have hat0 := hat
  obtain ⟨A, c, rfl, hc, _⟩ := hat
  have HAT := Lib.hid hat0
  clear hat0
  go_enter Try.func37, Try.ntmps37
  go_wp2_with fail
  go_loop [6] (fun y => ∃ k : Nat, y = .int .i64 k ∧ k ≤ l.length ∧ Hid (∀ b ∈ l.take k, b.1 ≠ x)) (fun y => l.length - (intOf y).toNat)
  case atStart => exact ⟨0, rfl, by omega, Lib.hid (by simp)⟩
  case round =>
    obtain ⟨k, rfl, hk, HA⟩ := hrel
    by_cases hlt : k < l.length
    · obtain ⟨b, o, c', hv, _, hSb, hcell⟩ := HAT.out.at_ (by omega)
      injection hv with hA _ hcc
      subst hA
      subst hcc
      obtain ⟨a, ha⟩ : ∃ a, l[k]? = some a := ⟨_, List.getElem?_eq_getElem hlt⟩
      have hbw := hS b hSb
      obtain ⟨q0, q1⟩ := hcell k a ha
      have HK := Lib.hid ha
      have hne : b ≠ w.heap.size := by omega
      by_cases hx : a.1 = x
      · have he : (a.1.toList == x.toList) = true := by rw [str_eq]; simp [hx]
        have HF := Lib.hid (valA_at HA.out ha hx)
        clear hcell ha hx
        go_wp2_with fail
        go_ret2
        exact ⟨by rw [HF.out]; rfl, below_new _ _⟩
      · have he : (a.1.toList == x.toList) = false := by rw [str_eq]; simp [hx]
        have HN := Lib.hid (show ∀ b ∈ l.take (k + 1), b.1 ≠ x by
          intro y hy
          rw [List.take_add_one, ha] at hy
          rcases List.mem_append.1 hy with hy | hy
          · exact HA.out y hy
          · simp at hy
            subst hy
            exact hx)
        clear hcell ha hx
        go_wp2_with fail
        go_round
        case rel => exact ⟨k + 1, by go_num, by omega, HN⟩
        case measure => simp [intOf]; omega
    · have HF := Lib.hid (show valA l x = none by
        have := HA.out
        rw [List.take_of_length_le (by omega)] at this
        exact valA_none.2 this)
      go_wp2_with fail
      go_ret2
      exact ⟨by rw [HF.out]; rfl, below_new _ _⟩

end Go.Proofs.Ytoidjkkjnhnbhaa

/- Part EndR. -/
namespace Go.Proofs.Ytoidjkkjnhnbhaa
open Go.RowKit
set_option linter.unusedVariables false

structure FdAt (w wr : World) (s : List UInt8) (v : Value) (k : Nat) : Prop where
  le : k ≤ s.length
  own : wr.ownsRow w.heap.size 5 1 v k (Lib.byteCells ((s.take k).map lowB))
  bel : Below w.heap.size w wr
def FdRel (w : World) (s : List UInt8) (v i : Value) (wr : World) : Prop := ∃ k : Nat, i = .int .i64 k ∧ FdAt w wr s v k

set_option maxHeartbeats 1000000 in
set_option maxRecDepth 100000 in
theorem foldR_any (s : ByteArray) (w : World) (hm : s.size ≤ 1000000) :
    Calls Try.prog 87 #[.string s] w fun e w' => e = .returned (.string (tB (s.data.toList.map lowB))) ∧ Below w.heap.size w w' := by
  obtain ⟨i0, hi, hz0, hz1, hz2⟩ := info_parts info_byte
  obtain ⟨sl, hsl⟩ : ∃ sl, s.data.toList = sl := ⟨_, rfl⟩
  have hss : s.size = sl.length := by rw [← hsl]; simp
  have hat : ∀ k, (h : k < s.size) → sl[k]? = some s[k] := by
    intro k h
    rw [← hsl, List.getElem?_eq_getElem (by simpa using h)]
    rw [at_data s k h]
  have HAT := Lib.hid hat
  have HSS := Lib.hid hss
  rw [hsl]
  clear hsl hss hat
  go_enter Try.func87, Try.ntmps87
  go_wp2_with fail
  go_loopw [3, 4, 5] (fun v i _ wr => FdRel w sl v i wr) (fun _ i _ _ => s.size - (intOf i).toNat)
  case atStart => exact ⟨0, rfl, by omega, World.ownsRow_nil _ _ _ _, Below.refl _ _⟩
  case round =>
    obtain ⟨k, rfl, HR⟩ := hrel
    obtain ⟨hk, hown, hbr⟩ := HR
    by_cases hlt : k < s.size
    · have hgk := HAT.out k hlt
      have hlen : k + 1 ≤ sl.length := by have := HSS.out; omega
      have hlw := lowB_toNat s[k]
      have HTK := Lib.hid (show (sl.take (k + 1)).map lowB = (sl.take k).map lowB ++ [lowB s[k]] by rw [take_snoc' hgk, List.map_append]; rfl)
      have hc := UInt8.toNat_lt s[k]
      have HLW := Lib.hid hlw
      clear hgk hlw
      by_cases h65 : 65 ≤ s[k].toNat
      · by_cases h90 : s[k].toNat ≤ 90
        · have B1 : IntKind.u8.wrap ((s[k].toNat : Int) + 32) = (s[k].toNat : Int) + 32 := by rw [IntKind.wrap_u8]; omega
          have HV := Lib.hid (show (s[k].toNat : Int) + 32 = ((lowB s[k]).toNat : Int) by rw [HLW.out, if_pos ⟨h65, h90⟩]; omega)
          have h65' : (65 : Int) ≤ (s[k].toNat : Int) := by omega
          have h90' : (s[k].toNat : Int) ≤ 90 := by omega
          go_wp2_with (at_builtin; refine wpList_append_own _ rfl _ _ 52 rfl w.heap.size 5 i0 (.int .u8 0) 1 1 Try.underlying52 hi hz0 hz1 hz2 rfl (by decide) _ _ _ rfl (hown.alloc _) ⟨wr.heap.size, 0, none⟩ 1 1 [.int .u8 ((s[k].toNat : Int) + 32)] rfl rfl (new_one _ _ _) (by simp [Value.oneCell']) (by unfold maxLen; omega) (by omega) (by have := hbr.size; simp; omega) ?_; intro v' w2 hown' hgrow _)
          have hB2 := (hbr.alloc hbr.size _).grown hgrow (by have := hbr.size; simp; omega) (fun g hg => (hown.lt g hg).1)
          clear hgrow
          go_roundw
          case rel =>
            refine ⟨k + 1, by go_num, hlen, ?_, hB2⟩
            rw [HTK.out, Lib.byteCells_append]
            rw [HV.out] at hown'
            exact hown'
          case measure => simp [intOf]; omega
        · have h65' : (65 : Int) ≤ (s[k].toNat : Int) := by omega
          have h90' : ¬ (s[k].toNat : Int) ≤ 90 := by omega
          have HV := Lib.hid (show (s[k].toNat : Int) = ((lowB s[k]).toNat : Int) by rw [HLW.out, if_neg (by omega)])
          go_wp2_with (at_builtin; refine wpList_append_own _ rfl _ _ 52 rfl w.heap.size 5 i0 (.int .u8 0) 1 1 Try.underlying52 hi hz0 hz1 hz2 rfl (by decide) _ _ _ rfl (hown.alloc _) ⟨wr.heap.size, 0, none⟩ 1 1 [.int .u8 (s[k].toNat : Int)] rfl rfl (new_one _ _ _) (by simp [Value.oneCell']) (by unfold maxLen; omega) (by omega) (by have := hbr.size; simp; omega) ?_; intro v' w2 hown' hgrow _)
          have hB2 := (hbr.alloc hbr.size _).grown hgrow (by have := hbr.size; simp; omega) (fun g hg => (hown.lt g hg).1)
          clear hgrow
          go_roundw
          case rel =>
            refine ⟨k + 1, by go_num, hlen, ?_, hB2⟩
            rw [HTK.out, Lib.byteCells_append]
            rw [HV.out] at hown'
            exact hown'
          case measure => simp [intOf]; omega
      · have h65' : ¬ (65 : Int) ≤ (s[k].toNat : Int) := by omega
        have HV := Lib.hid (show (s[k].toNat : Int) = ((lowB s[k]).toNat : Int) by rw [HLW.out, if_neg (by omega)])
        go_wp2_with (at_builtin; refine wpList_append_own _ rfl _ _ 52 rfl w.heap.size 5 i0 (.int .u8 0) 1 1 Try.underlying52 hi hz0 hz1 hz2 rfl (by decide) _ _ _ rfl (hown.alloc _) ⟨wr.heap.size, 0, none⟩ 1 1 [.int .u8 (s[k].toNat : Int)] rfl rfl (new_one _ _ _) (by simp [Value.oneCell']) (by unfold maxLen; omega) (by omega) (by have := hbr.size; simp; omega) ?_; intro v' w2 hown' hgrow _)
        have hB2 := (hbr.alloc hbr.size _).grown hgrow (by have := hbr.size; simp; omega) (fun g hg => (hown.lt g hg).1)
        clear hgrow
        go_roundw
        case rel =>
          refine ⟨k + 1, by go_num, hlen, ?_, hB2⟩
          rw [HTK.out, Lib.byteCells_append]
          rw [HV.out] at hown'
          exact hown'
        case measure => simp [intOf]; omega
    · have hke : k = sl.length := by have := HSS.out; omega
      subst hke
      rw [List.take_length] at hown
      obtain ⟨A1, c1, rfl, hc1⟩ := own_shape hown
      have hll : (sl.map lowB).length = sl.length := List.length_map _
      have hcv := convert_bytes (c := c1) (B := wr.heap.size) (A := A1) (l := sl.map lowB) (Sits.own hown)
      rw [hll] at hcv
      have hex : ¬ (sl.length < s.size) := hlt
      clear hown hlt hk hll
      go_wp2_with fail
      go_ret
      exact ⟨rfl, hbr⟩

set_option maxHeartbeats 400000 in
theorem blankR_any (c : UInt8) (w : World) :
    Calls Try.prog 88 #[.int .u8 c.toNat] w fun e w' => e = .returned (.bool (blC c)) ∧ w = w' := by
  have hv : blC c = (decide (c.toNat = 9) || decide (c.toNat = 10) || decide (c.toNat = 12) || decide (c.toNat = 32)) := rfl
  obtain ⟨q1, e1⟩ : ∃ q, ((c.toNat : Int) == 9) = q := ⟨_, rfl⟩
  obtain ⟨q2, e2⟩ : ∃ q, ((c.toNat : Int) == 10) = q := ⟨_, rfl⟩
  obtain ⟨q3, e3⟩ : ∃ q, ((c.toNat : Int) == 12) = q := ⟨_, rfl⟩
  obtain ⟨q4, e4⟩ : ∃ q, ((c.toNat : Int) == 32) = q := ⟨_, rfl⟩
  have key : ∀ n : Nat, decide (c.toNat = n) = ((c.toNat : Int) == (n : Int)) := by
    intro n
    by_cases h : c.toNat = n
    · rw [h]; simp
    · rw [decide_eq_false h]
      have : ¬ (c.toNat : Int) = (n : Int) := by omega
      simp [this]
  have HF := Lib.hid (show blC c = (q1 || q2 || q3 || q4) by rw [hv, key, key, key, key, ← e1, ← e2, ← e3, ← e4]; rfl)
  clear key hv
  cases q1
  case' false => cases q2
  case' false.false => cases q3
  all_goals
    go_enter Try.func88, Try.ntmps88
    go_wp2
    go_ret
    exact ⟨by rw [HF.out]; first | rfl | (simp only [Bool.true_or, Bool.false_or]; rfl), rfl⟩

structure EnAt (w wr : World) (nm l : List UInt8) (i : Nat) : Prop where
  le : i ≤ l.length
  no : ∀ j, j < i → endAt nm (l.drop j) = false
  bel : Below w.heap.size w wr
def EnRel (w : World) (nm l : List UInt8) (x : Value) (wr : World) : Prop := ∃ i : Nat, x = .int .i64 i ∧ EnAt w wr nm l i

theorem endAt_split {nm l : List UInt8} {i : Nat} {c : UInt8} (h : l[i + (2 + nm.length)]? = some c) : endAt nm (l.drop i) = (decide (((l.drop i).take (2 + nm.length)).map lowB = 60 :: 47 :: nm) && (blC c || decide (c = 47) || decide (c = 62))) := by
  unfold endAt
  have hd : (l.drop i).drop (2 + nm.length) = c :: l.drop (i + (2 + nm.length) + 1) := by
    rw [List.drop_drop]
    have hlt := (List.getElem?_eq_some_iff.1 h).1
    rw [List.drop_eq_getElem_cons hlt]
    rw [(List.getElem?_eq_some_iff.1 h).2]
  rw [hd]
theorem eq_cat {X : List UInt8} {name : ByteArray} : ((tB X).toList == ((⟨#[60, 47]⟩ : ByteArray) ++ name).toList) = decide (X = 60 :: 47 :: name.data.toList) := by
  rw [str_eq]
  congr 1
  rw [eq_iff_iff]
  constructor
  · intro h
    have := congrArg (fun b : ByteArray => b.data.toList) h
    simp only [tB_list, ByteArray.data_append, Array.toList_append] at this
    exact this
  · intro h
    apply bytes_inj
    rw [tB_list, h]
    simp

set_option maxHeartbeats 2000000 in
set_option maxRecDepth 100000 in
theorem endsR_any (s name : ByteArray) (w : World) (hm : s.size ≤ 400000) (hm2 : name.size ≤ 200000) :
    Calls Try.prog 67 #[.string s, .string name] w fun e w' => e = .returned (.int .i64 (endsI name.data.toList s.data.toList)) ∧ Below w.heap.size w w' := by
  obtain ⟨l, hl⟩ : ∃ l, s.data.toList = l := ⟨_, rfl⟩
  obtain ⟨nm, hn⟩ : ∃ nm, name.data.toList = nm := ⟨_, rfl⟩
  have hss : s.size = l.length := by rw [← hl]; simp
  have hns : name.size = nm.length := by rw [← hn]; simp
  have hat : ∀ k, (h : k < s.size) → l[k]? = some s[k] := by
    intro k h
    rw [← hl, List.getElem?_eq_getElem (by simpa using h)]
    rw [at_data s k h]
  have HAT := Lib.hid hat
  have HSS := Lib.hid hss
  have HNS := Lib.hid hns
  have HL := Lib.hid hl
  have HN := Lib.hid hn
  rw [hl, hn]
  clear hl hn hss hns hat
  go_enter Try.func67, Try.ntmps67
  go_wp2_with fail
  go_loopw [6, 7] (fun x _ wr => EnRel w nm l x wr) (fun x _ _ => s.size - (intOf x).toNat)
  case atStart => exact ⟨0, rfl, ⟨by omega, fun j hj => by omega, Below.refl _ _⟩⟩
  case round =>
    obtain ⟨i, rfl, HR⟩ := hrel
    obtain ⟨hi, hno, hbr⟩ := HR
    have hil : i ≤ s.size := by have := HSS.out; omega
    obtain ⟨m, hmm⟩ : ∃ m : Nat, m = i + (2 + name.size) := ⟨_, rfl⟩
    have e1 : (i : Int) + (2 + (name.size : Int)) = (m : Int) := by omega
    have HNO := Lib.hid hno
    have HMM := Lib.hid hmm
    clear hno hmm
    by_cases hlt : m < s.size
    · have him : i ≤ m := by have := HMM.out; omega
      have f1 : (0 : Int) ≤ (i : Int) ∧ (i : Int) ≤ (m : Int) ∧ (m : Int) ≤ (s.size : Int) := by omega
      obtain ⟨f1, f2, f3⟩ := f1
      have f4 : (m : Int) < (s.size : Int) := by omega
      have f5 : (0 : Int) ≤ (m : Int) := by omega
      have hex := HAT.out m hlt
      have hmid : (s.extract i m).data.toList = (l.drop i).take (2 + nm.length) := by
        rw [mid_extract, HL.out]
        have := HMM.out
        have := HNS.out
        congr 1
        omega
      have hmz : (s.extract i m).size ≤ 400000 := by rw [ByteArray.size_extract]; omega
      have HF := Lib.hid (fun W => foldR_any (s.extract i m) W (by omega))
      rw [hmid] at HF
      have hsp := endAt_split (nm := nm) (l := l) (i := i) (c := s[m]) (by have := HMM.out; have := HNS.out; rw [show i + (2 + nm.length) = m by omega]; exact hex)
      obtain ⟨q, hq⟩ : ∃ q, ((tB (((l.drop i).take (2 + nm.length)).map lowB)).toList == ((⟨#[60, 47]⟩ : ByteArray) ++ name).toList) = q := ⟨_, rfl⟩
      have hq2 := eq_cat (X := ((l.drop i).take (2 + nm.length)).map lowB) (name := name)
      rw [HN.out, hq] at hq2
      rw [← hq2] at hsp
      obtain ⟨c, hc⟩ : ∃ c, s[m] = c := ⟨_, rfl⟩
      rw [hc] at hsp
      have HB := Lib.hid (fun W => blankR_any c W)
      rw [← hc] at HB
      obtain ⟨bl, hbl⟩ : ∃ b, blC c = b := ⟨_, rfl⟩
      rw [hbl] at hsp
      rw [hc, hbl, ← hc] at HB
      obtain ⟨T, hT⟩ : ∃ T, tB (((l.drop i).take (2 + nm.length)).map lowB) = T := ⟨_, rfl⟩
      rw [hT] at HF hq
      have HSP := Lib.hid hsp
      have HC := Lib.hid hc
      have hi4 : i + 1 ≤ l.length := by have := HSS.out; have := HMM.out; omega
      have hns2 : ¬ (9223372036854775807 < (⟨#[60, 47]⟩ : ByteArray).size + name.size) := by show ¬ (_ < 2 + name.size); omega
      clear hex hmid hmz hsp hc hq2 hbl hT
      have HQ := Lib.hid hq
      clear hq
      go_wp2_with fail
      refine (HF.out _).mono ?_
      rintro e w2 ⟨rfl, hb2⟩
      have hB2 := below_after hbr hb2
      clear hb2
      cases q with
      | false =>
        have B0 := HQ.out
        have HE := Lib.hid (show endAt nm (l.drop i) = false by rw [HSP.out]; rfl)
        go_wp2_with fail
        go_roundw
        case rel => exact ⟨i + 1, by go_num, hi4, fun j hj => by
          rcases Nat.lt_or_ge j i with h | h
          · exact HNO.out j h
          · rw [show j = i by omega]; exact HE.out, hB2⟩
        case measure => simp [intOf]; omega
      | true =>
        have B0 := HQ.out
        cases bl with
        | true =>
          have HE := Lib.hid (endsI_at HNO.out (show endAt nm (l.drop i) = true by rw [HSP.out]; rfl))
          go_wp2_with fail
          refine (HB.out _).mono ?_
          rintro e w3 ⟨rfl, rfl⟩
          go_wp2_with fail
          go_ret
          rw [HE.out]
          exact ⟨rfl, hB2⟩
        | false =>
          by_cases h47 : c = 47
          · have B1 : ((s[m].toNat : Int) == 47) = true := by rw [HC.out, h47]; rfl
            have HE := Lib.hid (endsI_at HNO.out (show endAt nm (l.drop i) = true by rw [HSP.out, h47]; rfl))
            clear h47
            go_wp2_with fail
            refine (HB.out _).mono ?_
            rintro e w3 ⟨rfl, rfl⟩
            go_wp2_with fail
            go_ret
            rw [HE.out]
            exact ⟨rfl, hB2⟩
          · have n47 : ¬ (s[m].toNat = 47) := fun e => h47 (by rw [← HC.out]; exact UInt8.toNat_inj.1 e)
            have B1 : ((s[m].toNat : Int) == 47) = false := by simp; omega
            by_cases h62 : c = 62
            · have B2 : ((s[m].toNat : Int) == 62) = true := by rw [HC.out, h62]; rfl
              have HE := Lib.hid (endsI_at HNO.out (show endAt nm (l.drop i) = true by rw [HSP.out, h62]; rfl))
              clear h47 h62
              go_wp2_with fail
              refine (HB.out _).mono ?_
              rintro e w3 ⟨rfl, rfl⟩
              go_wp2_with fail
              go_ret
              rw [HE.out]
              exact ⟨rfl, hB2⟩
            · have n62 : ¬ (s[m].toNat = 62) := fun e => h62 (by rw [← HC.out]; exact UInt8.toNat_inj.1 e)
              have B2 : ((s[m].toNat : Int) == 62) = false := by simp; omega
              have HE := Lib.hid (show endAt nm (l.drop i) = false by rw [HSP.out, decide_eq_false h47, decide_eq_false h62]; rfl)
              clear h47 h62
              go_wp2_with fail
              refine (HB.out _).mono ?_
              rintro e w3 ⟨rfl, rfl⟩
              go_wp2_with fail
              go_roundw
              case rel => exact ⟨i + 1, by go_num, hi4, fun j hj => by
                rcases Nat.lt_or_ge j i with h | h
                · exact HNO.out j h
                · rw [show j = i by omega]; exact HE.out, hB2⟩
              case measure => simp [intOf]; omega
    · have hmge : s.size ≤ m := by omega
      have hfin := Lib.hid (show endsI nm l = -1 from endsI_no fun j hj => by
        by_cases hji : j < i
        · exact HNO.out j hji
        · refine endAt_short ?_
          rw [List.length_drop]
          have := HMM.out
          have := HNS.out
          have := HSS.out
          omega)
      go_wp2_with fail
      go_ret
      rw [hfin.out]
      exact ⟨rfl, hbr⟩

end Go.Proofs.Ytoidjkkjnhnbhaa

/- Part ClsR. -/
namespace Go.Proofs.Ytoidjkkjnhnbhaa
open Go.RowKit
set_option linter.unusedVariables false

theorem lit_strs (w : World) (t : TypeId) (Ls : List (List UInt8)) : ∀ (j : Nat) (x : List UInt8), Ls[j]? = some x → (w.alloc (.cells (Ls.map (fun x => Value.string (tB x))).toArray t)).cell? ⟨w.heap.size, j, none⟩ = some (.string (tB x)) := by
  intro j x hj
  rw [cell_at (box_here w _ t)]
  simp [hj]

structure ClAt (w : World) (A : Option Addr) (Ls : List (List UInt8)) (b : List UInt8) (k : Nat) (wr : World) : Prop where
  le : k ≤ Ls.length
  cells : ∀ (j : Nat) (x : List UInt8), Ls[j]? = some x → ∃ bx, A = some ⟨bx, 0, none⟩ ∧ wr.cell? ⟨bx, j, none⟩ = some (.string (tB x))
  no : ∀ j x, j < k → Ls[j]? = some x → x ≠ b
  bel : Below w.heap.size w wr
def ClRel (w : World) (A : Option Addr) (Ls : List (List UInt8)) (b : List UInt8) (x : Value) (wr : World) : Prop := ∃ k : Nat, x = .int .i64 k ∧ ClAt w A Ls b k wr

theorem ClAt.done {w wr : World} {A : Option Addr} {Ls : List (List UInt8)} {b : List UInt8} (h : ClAt w A Ls b Ls.length wr) : Ls.any (fun x => decide (x = b)) = false := by
  rw [List.any_eq_false]
  intro x hx
  obtain ⟨j, hj, he⟩ := List.mem_iff_getElem.1 hx
  have := h.no j x hj (by rw [List.getElem?_eq_getElem hj, he])
  simpa using this

set_option maxHeartbeats 4000000 in
set_option maxRecDepth 100000 in
theorem closesR_any (o b : ByteArray) (w : World) :
    Calls Try.prog 9 #[.string o, .string b] w fun e w' => e = .returned (.bool (closesB o.data.toList b.data.toList)) ∧ Below w.heap.size w w' := by
  have h1 := eqs o [112]
  have h2 := eqs o [108, 105]
  have h3 := eqs o [100, 116]
  have h4 := eqs o [100, 100]
  have h5 := eqs o [111, 112, 116, 105, 111, 110]
  have h6 := eqs o [116, 100]
  have h7 := eqs o [116, 114]
  have key : ∃ (Ls : List (List UInt8)), closedBy o.data.toList = Ls := ⟨_, rfl⟩
  obtain ⟨Ls, hLs⟩ := key
  have hres : closesB o.data.toList b.data.toList = Ls.any (fun x => decide (x = b.data.toList)) := by unfold closesB; rw [hLs]
  have HRES := Lib.hid hres
  unfold closedBy at hLs
  clear hres
  by_cases c1 : o.data.toList = [112]
  case' pos =>
    rw [if_pos c1] at hLs
    rw [decide_eq_true c1] at h1
  case' neg =>
    rw [if_neg c1] at hLs
    rw [decide_eq_false c1] at h1
    by_cases c2 : o.data.toList = [108, 105]
    case' pos =>
      rw [if_pos c2] at hLs
      rw [decide_eq_true c2] at h2
    case' neg =>
      rw [if_neg c2] at hLs
      rw [decide_eq_false c2] at h2
      by_cases c3 : o.data.toList = [100, 116]
      case' pos =>
        rw [if_pos (Or.inl c3)] at hLs
        rw [decide_eq_true c3] at h3
      case' neg =>
        rw [decide_eq_false c3] at h3
        by_cases c4 : o.data.toList = [100, 100]
        case' pos =>
          rw [if_pos (Or.inr c4)] at hLs
          rw [decide_eq_true c4] at h4
        case' neg =>
          rw [if_neg (by rintro (h | h); exact c3 h; exact c4 h)] at hLs
          rw [decide_eq_false c4] at h4
          by_cases c5 : o.data.toList = [111, 112, 116, 105, 111, 110]
          case' pos =>
            rw [if_pos c5] at hLs
            rw [decide_eq_true c5] at h5
          case' neg =>
            rw [if_neg c5] at hLs
            rw [decide_eq_false c5] at h5
            by_cases c6 : o.data.toList = [116, 100]
            case' pos =>
              rw [if_pos c6] at hLs
              rw [decide_eq_true c6] at h6
            case' neg =>
              rw [if_neg c6] at hLs
              rw [decide_eq_false c6] at h6
              by_cases c7 : o.data.toList = [116, 114]
              case' pos =>
                rw [if_pos c7] at hLs
                rw [decide_eq_true c7] at h7
              case' neg =>
                rw [if_neg c7] at hLs
                rw [decide_eq_false c7] at h7
  all_goals
    have hlen := congrArg List.length hLs
    simp only [List.length_cons, List.length_nil] at hlen
    have HLEN := Lib.hid hlen.symm
    have HLS := Lib.hid hLs
    clear hlen hLs
    (try clear c1)
    (try clear c2)
    (try clear c3)
    (try clear c4)
    (try clear c5)
    (try clear c6)
    (try clear c7)
    go_enter Try.func9, Try.ntmps9
    go_wp2_with fail
    go_loopw [6] (fun x wr => ClRel w (some ⟨w.heap.size, 0, none⟩) Ls b.data.toList x wr) (fun x _ => Ls.length - (intOf x).toNat)
    case atStart =>
      refine ⟨0, rfl, ⟨by omega, fun j x hj => ⟨_, rfl, ?_⟩, fun j x h => by omega, by first | exact below_new w _ | exact Below.refl _ _⟩⟩
      rw [← HLS.out] at hj
      first | exact lit_strs w 9 _ j x hj | simp at hj
    case round =>
      obtain ⟨k, rfl, HR⟩ := hrel
      have hk := HR.le
      have hbr := HR.bel
      have HRR := Lib.hid HR
      clear HR
      by_cases hlt : k < Ls.length
      · obtain ⟨x, hx⟩ : ∃ x, Ls[k]? = some x := ⟨_, List.getElem?_eq_getElem hlt⟩
        obtain ⟨bx, hbx, q0⟩ := HRR.out.cells k x hx
        injection hbx with hbx
        injection hbx with hbx _ _
        subst hbx
        have hst := str_eq (tB x) b
        have HX := Lib.hid hx
        have hk1 : k + 1 ≤ Ls.length := hlt
        have HK1 := Lib.hid hk1
        rw [HLEN.out] at hlt hk
        clear hx hk1
        (try (exfalso; omega))
        all_goals
          by_cases hxb : x = b.data.toList
          · have B0 : ((tB x).toList == b.toList) = true := by rw [hst, decide_eq_true (by rw [hxb, tB_of])]
            have HF := Lib.hid (show closesB o.data.toList b.data.toList = true by rw [HRES.out, List.any_eq_true]; exact ⟨x, List.mem_of_getElem? HX.out, by simp [hxb]⟩)
            clear hst hxb
            go_wp2_with fail
            go_ret
            rw [HF.out]
            exact ⟨rfl, hbr⟩
          · have B0 : ((tB x).toList == b.toList) = false := by rw [hst, decide_eq_false (fun e => hxb (by rw [← e, tB_list]))]
            have HXB := Lib.hid hxb
            clear hst hxb
            go_wp2_with fail
            go_roundw
            case rel => exact ⟨k + 1, by go_num, HK1.out, HRR.out.cells, fun j y hj hy => by
              rcases Nat.lt_or_ge j k with h | h
              · exact HRR.out.no j y h hy
              · have : j = k := by omega
                subst this
                rw [HX.out] at hy
                injection hy with hy
                subst hy
                exact HXB.out, hbr⟩
            case measure => have := HLEN.out; simp [intOf]; omega
      · have hke : k = Ls.length := by omega
        have HDN := Lib.hid (show ClAt w (some ⟨w.heap.size, 0, none⟩) Ls b.data.toList Ls.length wr by rw [← hke]; exact HRR.out)
        have HF := Lib.hid (show closesB o.data.toList b.data.toList = false by rw [HRES.out]; exact HDN.out.done)
        rw [HLEN.out] at hlt hk hke
        go_wp2_with fail
        go_ret
        rw [HF.out]
        exact ⟨rfl, hbr⟩

end Go.Proofs.Ytoidjkkjnhnbhaa
