/- strainerref01.Right: its walk. -/
import Derived.Test.YtenjhfkdbmljnaaTextR
import Derived.Test.YtenjhfkdbmljnaaNorm
namespace Go.Proofs.Ytenjhfkdbmljnaa
open Go.RowKit
set_option linter.unusedVariables false

/-- The character ahead of the k-th, or 0. -/
def prev (R : List Int) (k : Nat) : Int := if k = 0 then 0 else R.getD (k - 1) 0

theorem prev_zero (R : List Int) : prev R 0 = 0 := rfl
theorem prev_succ {R : List Int} {k : Nat} {x : Int} (h : R[k]? = some x) : prev R (k + 1) = x := by
  unfold prev
  rw [if_neg (by omega), Nat.add_sub_cancel, List.getD_eq_getElem?_getD, h]
  rfl

theorem okR_i32 {l : List Int} (h : ∀ r ∈ l, okR r) : i32s l := by
  intro r hr
  have := h r hr
  unfold okR at this
  omega

structure RightRAt (w1 wr : World) (R : List Int) (v : Value) (k : Nat) (acc : List Int) : Prop where
  le : k ≤ R.length
  is : norm 0 R = acc ++ norm (prev R k) (R.drop k)
  len : acc.length ≤ k
  own : wr.ownsRow w1.heap.size 21 1 v acc.length (rcells acc)
  bel : Below w1.heap.size w1 wr

/-- A character is appended. -/
theorem RightRAt.put {w1 wr w2 : World} {R : List Int} {v v' : Value} {k : Nat} {acc : List Int} {x y : Int} {o : Obj} (h : RightRAt w1 wr R v k acc) (hx : R[k]? = some x)
    (hn : ∀ t, norm (prev R k) (x :: t) = y :: norm x t) (hown : w2.ownsRow w1.heap.size 21 1 v' (acc.length + 1) (rcells acc ++ [.int .i32 y])) (hg : (wr.alloc o).grownBy w2 v.ownBlock) :
    RightRAt w1 w2 R v' (k + 1) (acc ++ [y]) := by
  have hk := (List.getElem?_eq_some_iff.1 hx).1
  refine ⟨by omega, ?_, by have := h.len; simp; omega, ?_, ?_⟩
  · rw [h.is, drop_at hx, hn, prev_succ hx, List.append_assoc]
    rfl
  · rw [rcells_append, List.length_append]
    exact hown
  · exact (h.bel.alloc h.bel.size _).grown hg (by have := h.bel.size; simp; omega) (fun g hg => (h.own.lt g hg).1)

/-- A character is passed over. -/
theorem RightRAt.pass {w1 wr : World} {R : List Int} {v : Value} {k : Nat} {acc : List Int} (h : RightRAt w1 wr R v k acc) (hx : R[k]? = some 10) (hp : prev R k = 13) : RightRAt w1 wr R v (k + 1) acc := by
  have hk := (List.getElem?_eq_some_iff.1 hx).1
  refine ⟨by omega, ?_, by have := h.len; omega, h.own, h.bel⟩
  rw [h.is, drop_at hx, hp, norm_10, prev_succ hx]

set_option maxHeartbeats 2000000 in
set_option maxRecDepth 100000 in
theorem rightR_any (A : Option Addr) (c : Nat) (l : List UInt8) (w : World) (hs : Sits w w.heap.size A (Lib.byteCells l)) (hc : l.length ≤ c) (hm : l.length ≤ 1000000) :
    Calls Try.prog 16 #[.slice A l.length c] w fun e w' => e = .returned (.string ⟨(right l).toArray⟩) ∧ Below w.heap.size w w' := by
  obtain ⟨i0, hi, hz0, hz1, hz2⟩ := info_parts info_rune
  have hrl := runes_len _ l (Nat.le_refl _)
  have hrok := runes_ok _ l (Nat.le_refl _)
  go_enter Try.func16, Try.ntmps16
  go_wp2_with fail
  refine (runesR_any A c l _ hs hc hm).mono ?_
  rintro e w1 ⟨A1, c1, rfl, hc1, hown1, hb1⟩
  have hsit := Lib.hid (Sits.own hown1)
  clear hown1 hs
  obtain ⟨R, hR⟩ : ∃ R, R = runes l := ⟨_, rfl⟩
  rw [← hR] at hc1 hsit hrl hrok ⊢
  have hfin : right l = enc (norm 0 R) := by rw [hR]; rfl
  have HF := Lib.hid hfin
  have HK := Lib.hid hrok
  clear hR hfin hrok
  go_wp2_with fail
  go_loopw [4, 5] (fun v i wr => ∃ (k : Nat) (acc : List Int), i = .int .i64 k ∧ RightRAt w1 wr R v k acc) (fun _ i _ => R.length - (intOf i).toNat)
  case atStart => exact ⟨0, [], rfl, by omega, by rw [prev_zero]; rfl, by simp, World.ownsRow_nil _ _ _ _, Below.refl _ _⟩
  case round =>
    obtain ⟨k, acc, rfl, HR⟩ := hrel
    have hle := HR.le
    have hlen := HR.len
    by_cases hlt : k < R.length
    · obtain ⟨b, o, rfl, hb, hcell⟩ := hsit.out.open_ (by rw [rcells_length]; omega)
      obtain ⟨x, hx⟩ : ∃ x, R[k]? = some x := ⟨_, List.getElem?_eq_getElem hlt⟩
      have q1 : wr.cell? ⟨b, o + k, none⟩ = some (.int .i32 x) := (HR.bel.cell (p := ⟨b, o + k, none⟩) hb).trans (hcell k _ (by simp [rcells, hx]))
      have HX := Lib.hid hx
      clear hx
      by_cases h10 : x = 10
      · subst h10
        by_cases hk0 : k = 0
        · have hkf : decide ((0 : Int) < (k : Int)) = false := by simp [hk0]
          have hkn : ¬ (0 : Int) < (k : Int) := by omega
          have HK0 := Lib.hid hk0
          clear hcell hk0
          go_wp2_with (at_builtin; refine wpList_append_own _ rfl _ _ 48 rfl w1.heap.size 21 i0 (.int .i32 0) 1 4 Try.underlying48 hi hz0 hz1 hz2 rfl (by decide) _ _ _ rfl (HR.own.alloc _) ⟨wr.heap.size, 0, none⟩ 1 1 [.int .i32 10] rfl rfl (new_one _ _ _) (by simp [Value.oneCell']) (by unfold maxLen; omega) (by omega) (by have := HR.bel.size; simp; omega) ?_; intro v' w2 hown' hgrow _)
          have HR2 := HR.put HX.out (fun t => by rw [HK0.out, prev_zero]; exact norm_r t (by omega) (by omega) (by omega)) hown' hgrow
          clear hgrow hown'
          go_roundw
          case rel => exact ⟨k + 1, acc ++ [10], by go_num, HR2⟩
          case measure => simp [intOf]; omega

        · have hkp : 0 < k := by omega
          have hkp' : (0 : Int) < (k : Int) := by omega
          obtain ⟨p, hp⟩ : ∃ p, R[k - 1]? = some p := ⟨_, List.getElem?_eq_getElem (by omega)⟩
          have hpr : prev R k = p := by
            unfold prev
            rw [if_neg hk0, List.getD_eq_getElem?_getD, hp]
            rfl
          have q2 : wr.cell? ⟨b, o + (k - 1), none⟩ = some (.int .i32 p) := (HR.bel.cell (p := ⟨b, o + (k - 1), none⟩) hb).trans (hcell (k - 1) _ (by simp [rcells, hp]))
          have HP := Lib.hid hpr
          clear hpr hp hcell
          have i1 : (0 : Int) ≤ (k : Int) - 1 := by omega
          have i2 : (k : Int) - 1 < (R.length : Int) := by omega
          by_cases h13 : p = 13
          · subst h13
            go_wp2
            go_roundw
            case rel => exact ⟨k + 1, acc, by go_num, HR.pass HX.out HP.out⟩
            case measure => simp [intOf]; omega
          · have B13 : (p == 13) = false := by simp [h13]
            go_wp2_with (at_builtin; refine wpList_append_own _ rfl _ _ 48 rfl w1.heap.size 21 i0 (.int .i32 0) 1 4 Try.underlying48 hi hz0 hz1 hz2 rfl (by decide) _ _ _ rfl (HR.own.alloc _) ⟨wr.heap.size, 0, none⟩ 1 1 [.int .i32 10] rfl rfl (new_one _ _ _) (by simp [Value.oneCell']) (by unfold maxLen; omega) (by omega) (by have := HR.bel.size; simp; omega) ?_; intro v' w2 hown' hgrow _)
            have HR2 := HR.put HX.out (fun t => by rw [HP.out]; exact norm_r t (by omega) (by omega) (by omega)) hown' hgrow
            clear hgrow hown'
            go_roundw
            case rel => exact ⟨k + 1, acc ++ [10], by go_num, HR2⟩
            case measure => simp [intOf]; omega

      · have B10 : (x == 10) = false := by simp [h10]
        clear hcell
        by_cases h13 : x = 13
        · subst h13
          go_wp2_with (at_builtin; refine wpList_append_own _ rfl _ _ 48 rfl w1.heap.size 21 i0 (.int .i32 0) 1 4 Try.underlying48 hi hz0 hz1 hz2 rfl (by decide) _ _ _ rfl (HR.own.alloc _) ⟨wr.heap.size, 0, none⟩ 1 1 [.int .i32 10] rfl rfl (new_one _ _ _) (by simp [Value.oneCell']) (by unfold maxLen; omega) (by omega) (by have := HR.bel.size; simp; omega) ?_; intro v' w2 hown' hgrow _)
          have HR2 := HR.put HX.out (fun t => norm_13 _ t) hown' hgrow
          clear hgrow hown'
          go_roundw
          case rel => exact ⟨k + 1, acc ++ [10], by go_num, HR2⟩
          case measure => simp [intOf]; omega

        · have B13 : (x == 13) = false := by simp [h13]
          by_cases h0 : x = 0
          · subst h0
            go_wp2_with (at_builtin; refine wpList_append_own _ rfl _ _ 48 rfl w1.heap.size 21 i0 (.int .i32 0) 1 4 Try.underlying48 hi hz0 hz1 hz2 rfl (by decide) _ _ _ rfl (HR.own.alloc _) ⟨wr.heap.size, 0, none⟩ 1 1 [.int .i32 65533] rfl rfl (new_one _ _ _) (by simp [Value.oneCell']) (by unfold maxLen; omega) (by omega) (by have := HR.bel.size; simp; omega) ?_; intro v' w2 hown' hgrow _)
            have HR2 := HR.put HX.out (fun t => norm_0 _ t) hown' hgrow
            clear hgrow hown'
            go_roundw
            case rel => exact ⟨k + 1, acc ++ [65533], by go_num, HR2⟩
            case measure => simp [intOf]; omega

          · have B0 : (x == 0) = false := by simp [h0]
            have HN := Lib.hid (fun (t : List Int) => norm_r (a := prev R k) (r := x) t h13 (by omega) h0)
            clear h13 h10 h0
            go_wp2_with (at_builtin; refine wpList_append_own _ rfl _ _ 48 rfl w1.heap.size 21 i0 (.int .i32 0) 1 4 Try.underlying48 hi hz0 hz1 hz2 rfl (by decide) _ _ _ rfl (HR.own.alloc _) ⟨wr.heap.size, 0, none⟩ 1 1 [.int .i32 x] rfl rfl (new_one _ _ _) (by simp [Value.oneCell']) (by unfold maxLen; omega) (by omega) (by have := HR.bel.size; simp; omega) ?_; intro v' w2 hown' hgrow _)
            have HR2 := HR.put HX.out HN.out hown' hgrow
            clear hgrow hown'
            go_roundw
            case rel => exact ⟨k + 1, acc ++ [x], by go_num, HR2⟩
            case measure => simp [intOf]; omega

    · have hr : norm 0 R = acc := by
        have := HR.is
        rw [List.drop_of_length_le (by omega)] at this
        simpa [norm] using this
      obtain ⟨A', c', rfl, hcc⟩ := own_shape HR.own
      have HRR := Lib.hid hr
      have hok : ∀ r ∈ acc, okR r := by
        intro r hr'
        rw [← hr] at hr'
        exact (norm_ok R 0 HK.out r hr').1
      have h32 := okR_i32 hok
      have hsit2 := Sits.own HR.own
      clear hr hok
      go_wp2_with fail
      refine (textR_any A' c' acc wr hsit2 hcc (by omega) h32).mono ?_
      rintro e w2 ⟨rfl, hb2⟩
      have hB2 := below_after (below_after hb1 HR.bel) hb2
      go_wp2
      go_ret
      rw [HF.out, HRR.out]
      exact ⟨rfl, hB2⟩

end Go.Proofs.Ytenjhfkdbmljnaa
