/- Parts of the proof, in build order: Mdl MdlC Clsd TkPM TkA Shelf TkB. -/
import Derived.Test.YtoidjkkjnhnbhaaK07
import Derived.Test.YtoidjkkjnhnbhaaK11
import Derived.BigQuiet
import Derived.Test.YtoidjkkjnhnbhaaK01
import Derived.WalkKit
import Derived.OwnWalkIn
import Derived.TacticsInMore
import Derived.Test.YtoidjkkjnhnbhaaK03
import Derived.Lib.IndexMore
import Derived.Test.YtoidjkkjnhnbhaaK02
import Derived.Deep.QuietTactic
import Derived.Shelf.Strings.Search1
import Derived.Shelf.Strings.Search2
import Derived.Shelf.Strings.Search3
import Derived.Shelf.LaysM
import Derived.Shelf.Strings.Shaped
import Derived.Shelf.Strings.Prefix
import Derived.Test.YtoidjkkjnhnbhaaProg
import Derived.Lib.Small
import Derived.Test.YtoidjkkjnhnbhaaK06
import Derived.Laws.Runes
import Derived.WalkMore

/- Part Mdl. -/
namespace Go.Proofs.Ytoidjkkjnhnbhaa
open Go.RowKit
set_option linter.unusedVariables false

/-- Closes tells what the document says. -/
def ClosesSaid : Prop := ∀ (o b : ByteArray) (w : World), o.size ≤ maxLen → Calls Try.prog 7 #[.string o, .string b] w fun e w' => e = .returned (.bool (closesB o.data.toList b.data.toList)) ∧ Below w.heap.size w w'
/-- Fits likewise. -/
def FitsSaid : Prop := ∀ (p : ByteArray) (n : Nd) (va vk : Value) (w : World), (∃ A c, va = .slice A n.attrs.length c) → (∃ A c, vk = .slice A n.kids.length c) → p.size ≤ 100000 → n.text.size ≤ 100000 →
  Calls Try.prog 16 #[.string p, .agg #[.int .i64 n.kind, .string n.name, va, .string n.text, vk]] w fun e w' => e = .returned (.bool (fitsB p.data.toList n)) ∧ Below w.heap.size w w'
/-- Stable likewise. -/
def StableSaid : Prop := ∀ (l : List Nd) (S : Nat → Prop) (v : Value) (w : World), Glob w → Tree S w l v → (∀ b, S b → b < w.heap.size) → szL l ≤ 100000 →
  Calls Try.prog 14 #[v] w fun e w' => e = .returned (.bool (stableB l)) ∧ Below w.heap.size w w'

/-- Nodes of a bounded size are such as a row may hand in. -/
theorem fine_of : ∀ l : List Nd, szL l ≤ 1000000 → Fine l := by
  refine sz_ind fun l ih h => ?_
  have hlen := szL_len l
  refine .mk l (by unfold maxLen; omega) (fun n hn => ?_) (fun n hn => ?_)
  · have hz := mem_sz hn
    rw [szN_eq] at hz
    have ha := szA_len n.attrs
    refine ⟨by unfold maxLen; omega, by unfold maxLen; omega, by unfold maxLen; omega, fun a ha => ?_⟩
    obtain ⟨j, hj, he⟩ := List.mem_iff_getElem.1 ha
    have := szA_at (List.getElem?_eq_some_iff.2 ⟨hj, he⟩)
    exact ⟨by unfold maxLen; omega, by unfold maxLen; omega⟩
  · have hz := mem_sz hn
    rw [szN_eq] at hz
    exact ih _ (by omega) (by omega)

theorem all_take {p : Nd → Bool} {l : List Nd} {j : Nat} {x : Nd} (h : l[j]? = some x) : (l.take (j + 1)).all p = ((l.take j).all p && p x) := by
  rw [List.take_add_one, h, List.all_append]
  simp

/-- The first 20 bytes. -/
def few6S (s : ByteArray) : ByteArray := if 20 < s.size then s.extract 0 20 else s
theorem few6S_size (s : ByteArray) : (few6S s).size ≤ 20 := by
  unfold few6S
  split
  · rw [ByteArray.size_extract]; omega
  · omega
set_option maxHeartbeats 400000 in
theorem few6_any (s : ByteArray) (w : World) (hm : s.size ≤ maxLen) :
    Calls Try.prog 8 #[.string s] w fun e w' => e = .returned (.string (few6S s)) ∧ w = w' := by
  unfold maxLen at hm
  by_cases h : 20 < s.size
  · have hf := Lib.hid (show few6S s = s.extract 0 20 by unfold few6S; rw [if_pos h])
    go_enter Try.func8, Try.ntmps8
    go_wp2
    go_ret
    exact ⟨by rw [hf.out]; rfl, rfl⟩
  · have hf := Lib.hid (show few6S s = s by unfold few6S; rw [if_neg h])
    go_enter Try.func8, Try.ntmps8
    go_wp2
    go_ret
    exact ⟨by rw [hf.out]; rfl, rfl⟩

theorem lv_1 : closesB [112] [100, 105, 118] = true := by decide +kernel
theorem lv_2 : fitsB [112] (.mk 1 ⟨#[100, 105, 118]⟩ [] ⟨#[]⟩ []) = false := by decide +kernel
theorem lv_3 : fitsB [115, 99, 114, 105, 112, 116] (.mk 1 ⟨#[98]⟩ [] ⟨#[]⟩ []) = false := by decide +kernel
theorem lv_4 : stableB [] = true := by rfl

set_option maxHeartbeats 1000000 in
theorem lives6_any (HC : ClosesSaid) (HF : FitsSaid) (HS : StableSaid) (w : World) (HGB : Glob w) : Calls Try.prog 10 #[] w fun e w' => e = .returned (.bool true) ∧ Below w.heap.size w w' := by
  have H1 := Lib.hid (fun W => HC ⟨#[112]⟩ ⟨#[100, 105, 118]⟩ W (by decide))
  have H2 := Lib.hid (fun W => HF ⟨#[112]⟩ (.mk 1 ⟨#[100, 105, 118]⟩ [] ⟨#[]⟩ []) (.slice none 0 0) (.slice none 0 0) W ⟨_, _, rfl⟩ ⟨_, _, rfl⟩ (by decide) (by decide))
  have H3 := Lib.hid (fun W => HF ⟨#[115, 99, 114, 105, 112, 116]⟩ (.mk 1 ⟨#[98]⟩ [] ⟨#[]⟩ []) (.slice none 0 0) (.slice none 0 0) W ⟨_, _, rfl⟩ ⟨_, _, rfl⟩ (by decide) (by decide))
  have H4 := Lib.hid (fun W hW => HS [] (fun _ => False) (.slice none 0 0) W hW (Tree.nil _ _) (fun b h => h.elim) (by decide))
  rw [show closesB (⟨#[112]⟩ : ByteArray).data.toList (⟨#[100, 105, 118]⟩ : ByteArray).data.toList = true from lv_1] at H1
  rw [show fitsB (⟨#[112]⟩ : ByteArray).data.toList (.mk 1 ⟨#[100, 105, 118]⟩ [] ⟨#[]⟩ []) = false from lv_2] at H2
  rw [show fitsB (⟨#[115, 99, 114, 105, 112, 116]⟩ : ByteArray).data.toList (.mk 1 ⟨#[98]⟩ [] ⟨#[]⟩ []) = false from lv_3] at H3
  rw [lv_4] at H4
  go_enter Try.func10, Try.ntmps10
  go_wp2_with fail
  refine (H1.out _).mono ?_
  rintro e w1 ⟨rfl, hb1⟩
  go_wp2_with fail
  refine (H2.out _).mono ?_
  rintro e w2 ⟨rfl, hb2⟩
  go_wp2_with fail
  refine (H3.out _).mono ?_
  rintro e w3 ⟨rfl, hb3⟩
  go_wp2_with fail
  refine (H4.out _ (HGB.below (below_after (below_after hb1 hb2) hb3))).mono ?_
  rintro e w4 ⟨rfl, hb4⟩
  go_wp2_with fail
  go_ret
  exact ⟨rfl, below_after (below_after (below_after hb1 hb2) hb3) hb4⟩

end Go.Proofs.Ytoidjkkjnhnbhaa

/- Part MdlC. -/
namespace Go.Proofs.Ytoidjkkjnhnbhaa
open Go.RowKit
set_option linter.unusedVariables false

/-- The names of those that something closes. -/
def clN : List (List UInt8) := [[100, 100], [100, 116], [108, 105], [111, 112, 116, 105, 111, 110], [112], [116, 100], [116, 114]]
/-- Closed tells them. -/
def ClosedSaid : Prop := ∀ (w : World), Calls Try.prog 6 #[] w fun e w' => ∃ b o c, e = .returned (.slice (some ⟨b, o, none⟩) 7 c) ∧ 7 ≤ c ∧ b < w'.heap.size ∧ (∀ j x, clN[j]? = some x → w'.cell? ⟨b, o + j, none⟩ = some (.string (tB x))) ∧ Below w.heap.size w w'
/-- Has a name been among the first k? -/
def hadB (a : List UInt8) (k : Nat) : Bool := (clN.take k).any (fun x => decide (x = a))
theorem had_snoc {a : List UInt8} {k : Nat} {x : List UInt8} (h : clN[k]? = some x) : hadB a (k + 1) = (hadB a k || decide (x = a)) := by
  unfold hadB
  rw [List.take_add_one, h, List.any_append]
  simp
theorem closes_had (o b : List UInt8) (h : closesB o b = true) : hadB o 7 = true := by
  have key : closedBy o ≠ [] := by
    intro e
    unfold closesB at h
    rw [e] at h
    cases h
  have h7 : hadB o 7 = clN.any (fun x => decide (x = o)) := rfl
  rw [h7, List.any_eq_true]
  refine ⟨o, ?_, by simp⟩
  unfold closedBy at key
  have hm : o = [112] ∨ o = [108, 105] ∨ (o = [100, 116] ∨ o = [100, 100]) ∨ o = [111, 112, 116, 105, 111, 110] ∨ o = [116, 100] ∨ o = [116, 114] := by
    refine Classical.byContradiction fun hn => key ?_
    simp only [not_or] at hn
    obtain ⟨h1, h2, ⟨h3, h4⟩, h5, h6, h7⟩ := hn
    simp [h1, h2, h3, h4, h5, h6, h7]
  rcases hm with rfl | rfl | (rfl | rfl) | rfl | rfl | rfl <;> simp [clN]

structure McAt (w1 wr : World) (a : List UInt8) (k : Nat) (q : Bool) : Prop where
  le : k ≤ 7
  is : q = hadB a k
  bel : Below w1.heap.size w1 wr
def McRel (w1 : World) (a : List UInt8) (x y : Value) (wr : World) : Prop := ∃ (k : Nat) (q : Bool), x = .bool q ∧ y = .int .i64 k ∧ McAt w1 wr a k q

set_option maxHeartbeats 8000000 in
set_option maxRecDepth 100000 in
theorem modelCloses_end (HC : ClosesSaid) (HFI : FitsSaid) (HST : StableSaid) (HCD : ClosedSaid) (a b : ByteArray) (w : World) (ha : a.size ≤ maxLen) (hb : b.size ≤ maxLen) (HGB : Glob w) :
    Calls Try.prog 3 #[.string a, .string b] w fun e w' => e = .returned (.bool true) ∧ Below w.heap.size w w' := by
  have HA := Lib.hid (fun W => few6_any a W ha)
  have HB := Lib.hid (fun W => few6_any b W hb)
  have hfz := few6S_size a
  obtain ⟨fa, hfa⟩ : ∃ s, few6S a = s := ⟨_, rfl⟩
  obtain ⟨fb, hfb⟩ : ∃ s, few6S b = s := ⟨_, rfl⟩
  rw [hfa] at HA hfz
  rw [hfb] at HB
  have HM := Lib.hid (fun W => HC fa fb W (by unfold maxLen; omega))
  have HR := Lib.hid (closesR_any fa fb)
  have HAB := Lib.hid (fun W => HC a b W ha)
  have HIN := Lib.hid (closes_had a.data.toList b.data.toList)
  obtain ⟨q1, hq1⟩ : ∃ q, closesB fa.data.toList fb.data.toList = q := ⟨_, rfl⟩
  obtain ⟨q2, hq2⟩ : ∃ q, closesB a.data.toList b.data.toList = q := ⟨_, rfl⟩
  rw [hq1] at HM HR
  rw [hq2] at HAB HIN
  have B1 : (q1 == q1) = true := by cases q1 <;> rfl
  clear hfa hfb hq1 hq2 ha hb hfz
  go_enter Try.func3, Try.ntmps3
  go_wp2_with fail
  refine (HCD _).mono ?_
  rintro e w1 ⟨bx, o, c, rfl, hc7, hbx, hcells, hb1⟩
  have HCL := Lib.hid hcells
  have HB1 := Lib.hid hb1
  clear hcells hb1
  go_wp2_with fail
  go_loopw [6, 7] (fun x y wr => McRel w1 a.data.toList x y wr) (fun _ y _ => 7 - (intOf y).toNat)
  case atStart => exact ⟨0, false, rfl, rfl, by omega, rfl, Below.refl _ _⟩
  case round =>
    obtain ⟨k, q, rfl, rfl, HR2⟩ := hrel
    have hk := HR2.le
    have hbr := HR2.bel
    have HIS := Lib.hid HR2.is
    clear HR2
    by_cases hlt : k < 7
    · have q0 : wr.cell? ⟨bx, o, none⟩ = some (.string ⟨#[100, 100]⟩) := (hbr.cell (p := ⟨bx, o, none⟩) hbx).trans (HCL.out 0 _ rfl)
      have q1 : wr.cell? ⟨bx, o + 1, none⟩ = some (.string ⟨#[100, 116]⟩) := (hbr.cell (p := ⟨bx, o + 1, none⟩) hbx).trans (HCL.out 1 _ rfl)
      have q2 : wr.cell? ⟨bx, o + 2, none⟩ = some (.string ⟨#[108, 105]⟩) := (hbr.cell (p := ⟨bx, o + 2, none⟩) hbx).trans (HCL.out 2 _ rfl)
      have q3 : wr.cell? ⟨bx, o + 3, none⟩ = some (.string ⟨#[111, 112, 116, 105, 111, 110]⟩) := (hbr.cell (p := ⟨bx, o + 3, none⟩) hbx).trans (HCL.out 3 _ rfl)
      have q4 : wr.cell? ⟨bx, o + 4, none⟩ = some (.string ⟨#[112]⟩) := (hbr.cell (p := ⟨bx, o + 4, none⟩) hbx).trans (HCL.out 4 _ rfl)
      have q5 : wr.cell? ⟨bx, o + 5, none⟩ = some (.string ⟨#[116, 100]⟩) := (hbr.cell (p := ⟨bx, o + 5, none⟩) hbx).trans (HCL.out 5 _ rfl)
      have q6 : wr.cell? ⟨bx, o + 6, none⟩ = some (.string ⟨#[116, 114]⟩) := (hbr.cell (p := ⟨bx, o + 6, none⟩) hbx).trans (HCL.out 6 _ rfl)
      have hk7 : k = 0 ∨ k = 1 ∨ k = 2 ∨ k = 3 ∨ k = 4 ∨ k = 5 ∨ k = 6 := by omega
      clear hlt hk
      rcases hk7 with rfl | rfl | rfl | rfl | rfl | rfl | rfl
      · have HS := Lib.hid (had_snoc (a := a.data.toList) (k := 0) (x := [100, 100]) rfl)
        rw [← HIS.out] at HS
        obtain ⟨r, hr⟩ : ∃ r, decide ([100, 100] = a.data.toList) = r := ⟨_, rfl⟩
        have B0 : ((⟨#[100, 100]⟩ : ByteArray).toList == a.toList) = r := by rw [eq_two]; exact hr
        have B0' : (([100, 100] : List UInt8) == a.toList) = r := by rw [BEq.comm, eqs, ← hr]; exact decide_eq_decide.2 ⟨Eq.symm, Eq.symm⟩
        have B2 : (Value.string (⟨#[100, 100]⟩ : ByteArray)) = Value.string ⟨#[100, 100]⟩ := rfl
        rw [hr] at HS
        clear hr B2
        cases q with
        | true =>
          clear B0 B0'
          go_wp2_with fail
          go_quiet (fail)
          go_wp2_with fail
          go_roundw
          case rel => exact ⟨1, true, rfl, rfl, by omega, by rw [HS.out]; rfl, dN_below hbr _⟩
          case measure => simp [intOf]
        | false =>
          go_wp2_with fail
          go_quiet (fail)
          go_wp2_with fail
          go_roundw
          case rel => exact ⟨1, r, rfl, rfl, by omega, by rw [HS.out]; rfl, dN_below hbr _⟩
          case measure => simp [intOf]
      · have HS := Lib.hid (had_snoc (a := a.data.toList) (k := 1) (x := [100, 116]) rfl)
        rw [← HIS.out] at HS
        obtain ⟨r, hr⟩ : ∃ r, decide ([100, 116] = a.data.toList) = r := ⟨_, rfl⟩
        have B0 : ((⟨#[100, 116]⟩ : ByteArray).toList == a.toList) = r := by rw [eq_two]; exact hr
        have B0' : (([100, 116] : List UInt8) == a.toList) = r := by rw [BEq.comm, eqs, ← hr]; exact decide_eq_decide.2 ⟨Eq.symm, Eq.symm⟩
        have B2 : (Value.string (⟨#[100, 116]⟩ : ByteArray)) = Value.string ⟨#[100, 116]⟩ := rfl
        rw [hr] at HS
        clear hr B2
        cases q with
        | true =>
          clear B0 B0'
          go_wp2_with fail
          go_quiet (fail)
          go_wp2_with fail
          go_roundw
          case rel => exact ⟨2, true, rfl, rfl, by omega, by rw [HS.out]; rfl, dN_below hbr _⟩
          case measure => simp [intOf]
        | false =>
          go_wp2_with fail
          go_quiet (fail)
          go_wp2_with fail
          go_roundw
          case rel => exact ⟨2, r, rfl, rfl, by omega, by rw [HS.out]; rfl, dN_below hbr _⟩
          case measure => simp [intOf]
      · have HS := Lib.hid (had_snoc (a := a.data.toList) (k := 2) (x := [108, 105]) rfl)
        rw [← HIS.out] at HS
        obtain ⟨r, hr⟩ : ∃ r, decide ([108, 105] = a.data.toList) = r := ⟨_, rfl⟩
        have B0 : ((⟨#[108, 105]⟩ : ByteArray).toList == a.toList) = r := by rw [eq_two]; exact hr
        have B0' : (([108, 105] : List UInt8) == a.toList) = r := by rw [BEq.comm, eqs, ← hr]; exact decide_eq_decide.2 ⟨Eq.symm, Eq.symm⟩
        have B2 : (Value.string (⟨#[108, 105]⟩ : ByteArray)) = Value.string ⟨#[108, 105]⟩ := rfl
        rw [hr] at HS
        clear hr B2
        cases q with
        | true =>
          clear B0 B0'
          go_wp2_with fail
          go_quiet (fail)
          go_wp2_with fail
          go_roundw
          case rel => exact ⟨3, true, rfl, rfl, by omega, by rw [HS.out]; rfl, dN_below hbr _⟩
          case measure => simp [intOf]
        | false =>
          go_wp2_with fail
          go_quiet (fail)
          go_wp2_with fail
          go_roundw
          case rel => exact ⟨3, r, rfl, rfl, by omega, by rw [HS.out]; rfl, dN_below hbr _⟩
          case measure => simp [intOf]
      · have HS := Lib.hid (had_snoc (a := a.data.toList) (k := 3) (x := [111, 112, 116, 105, 111, 110]) rfl)
        rw [← HIS.out] at HS
        obtain ⟨r, hr⟩ : ∃ r, decide ([111, 112, 116, 105, 111, 110] = a.data.toList) = r := ⟨_, rfl⟩
        have B0 : ((⟨#[111, 112, 116, 105, 111, 110]⟩ : ByteArray).toList == a.toList) = r := by rw [eq_two]; exact hr
        have B0' : (([111, 112, 116, 105, 111, 110] : List UInt8) == a.toList) = r := by rw [BEq.comm, eqs, ← hr]; exact decide_eq_decide.2 ⟨Eq.symm, Eq.symm⟩
        have B2 : (Value.string (⟨#[111, 112, 116, 105, 111, 110]⟩ : ByteArray)) = Value.string ⟨#[111, 112, 116, 105, 111, 110]⟩ := rfl
        rw [hr] at HS
        clear hr B2
        cases q with
        | true =>
          clear B0 B0'
          go_wp2_with fail
          go_quiet (fail)
          go_wp2_with fail
          go_roundw
          case rel => exact ⟨4, true, rfl, rfl, by omega, by rw [HS.out]; rfl, dN_below hbr _⟩
          case measure => simp [intOf]
        | false =>
          go_wp2_with fail
          go_quiet (fail)
          go_wp2_with fail
          go_roundw
          case rel => exact ⟨4, r, rfl, rfl, by omega, by rw [HS.out]; rfl, dN_below hbr _⟩
          case measure => simp [intOf]
      · have HS := Lib.hid (had_snoc (a := a.data.toList) (k := 4) (x := [112]) rfl)
        rw [← HIS.out] at HS
        obtain ⟨r, hr⟩ : ∃ r, decide ([112] = a.data.toList) = r := ⟨_, rfl⟩
        have B0 : ((⟨#[112]⟩ : ByteArray).toList == a.toList) = r := by rw [eq_two]; exact hr
        have B0' : (([112] : List UInt8) == a.toList) = r := by rw [BEq.comm, eqs, ← hr]; exact decide_eq_decide.2 ⟨Eq.symm, Eq.symm⟩
        have B2 : (Value.string (⟨#[112]⟩ : ByteArray)) = Value.string ⟨#[112]⟩ := rfl
        rw [hr] at HS
        clear hr B2
        cases q with
        | true =>
          clear B0 B0'
          go_wp2_with fail
          go_quiet (fail)
          go_wp2_with fail
          go_roundw
          case rel => exact ⟨5, true, rfl, rfl, by omega, by rw [HS.out]; rfl, dN_below hbr _⟩
          case measure => simp [intOf]
        | false =>
          go_wp2_with fail
          go_quiet (fail)
          go_wp2_with fail
          go_roundw
          case rel => exact ⟨5, r, rfl, rfl, by omega, by rw [HS.out]; rfl, dN_below hbr _⟩
          case measure => simp [intOf]
      · have HS := Lib.hid (had_snoc (a := a.data.toList) (k := 5) (x := [116, 100]) rfl)
        rw [← HIS.out] at HS
        obtain ⟨r, hr⟩ : ∃ r, decide ([116, 100] = a.data.toList) = r := ⟨_, rfl⟩
        have B0 : ((⟨#[116, 100]⟩ : ByteArray).toList == a.toList) = r := by rw [eq_two]; exact hr
        have B0' : (([116, 100] : List UInt8) == a.toList) = r := by rw [BEq.comm, eqs, ← hr]; exact decide_eq_decide.2 ⟨Eq.symm, Eq.symm⟩
        have B2 : (Value.string (⟨#[116, 100]⟩ : ByteArray)) = Value.string ⟨#[116, 100]⟩ := rfl
        rw [hr] at HS
        clear hr B2
        cases q with
        | true =>
          clear B0 B0'
          go_wp2_with fail
          go_quiet (fail)
          go_wp2_with fail
          go_roundw
          case rel => exact ⟨6, true, rfl, rfl, by omega, by rw [HS.out]; rfl, dN_below hbr _⟩
          case measure => simp [intOf]
        | false =>
          go_wp2_with fail
          go_quiet (fail)
          go_wp2_with fail
          go_roundw
          case rel => exact ⟨6, r, rfl, rfl, by omega, by rw [HS.out]; rfl, dN_below hbr _⟩
          case measure => simp [intOf]
      · have HS := Lib.hid (had_snoc (a := a.data.toList) (k := 6) (x := [116, 114]) rfl)
        rw [← HIS.out] at HS
        obtain ⟨r, hr⟩ : ∃ r, decide ([116, 114] = a.data.toList) = r := ⟨_, rfl⟩
        have B0 : ((⟨#[116, 114]⟩ : ByteArray).toList == a.toList) = r := by rw [eq_two]; exact hr
        have B0' : (([116, 114] : List UInt8) == a.toList) = r := by rw [BEq.comm, eqs, ← hr]; exact decide_eq_decide.2 ⟨Eq.symm, Eq.symm⟩
        have B2 : (Value.string (⟨#[116, 114]⟩ : ByteArray)) = Value.string ⟨#[116, 114]⟩ := rfl
        rw [hr] at HS
        clear hr B2
        cases q with
        | true =>
          clear B0 B0'
          go_wp2_with fail
          go_quiet (fail)
          go_wp2_with fail
          go_roundw
          case rel => exact ⟨7, true, rfl, rfl, by omega, by rw [HS.out]; rfl, dN_below hbr _⟩
          case measure => simp [intOf]
        | false =>
          go_wp2_with fail
          go_quiet (fail)
          go_wp2_with fail
          go_roundw
          case rel => exact ⟨7, r, rfl, rfl, by omega, by rw [HS.out]; rfl, dN_below hbr _⟩
          case measure => simp [intOf]
    · have hk7 : k = 7 := by omega
      subst hk7
      have HIS2 := Lib.hid (show q2 = true → q = true by intro h; rw [HIS.out]; exact HIN.out h)
      clear hlt hk
      go_wp2_with fail
      refine (HA.out _).mono ?_
      rintro e w2 ⟨rfl, rfl⟩
      go_wp2_with fail
      refine (HB.out _).mono ?_
      rintro e w2 ⟨rfl, rfl⟩
      go_wp2_with fail
      refine (HM.out _).mono ?_
      rintro e w2 ⟨rfl, hb2⟩
      have hbr2 := below_after hbr hb2
      clear hb2
      go_wp2_with fail
      refine (HA.out _).mono ?_
      rintro e w3 ⟨rfl, rfl⟩
      go_wp2_with fail
      refine (HB.out _).mono ?_
      rintro e w3 ⟨rfl, rfl⟩
      go_wp2_with fail
      refine (HR.out _).mono ?_
      rintro e w3 ⟨rfl, hb3⟩
      have hbr3 := below_after hbr2 hb3
      clear hb3
      go_wp2_with fail
      refine (HAB.out _).mono ?_
      rintro e w4 ⟨rfl, hb4⟩
      have hbr4 := below_after hbr3 hb4
      clear hb4
      cases q2 with
      | true =>
        obtain rfl := HIS2.out rfl
        go_wp2_with fail
        refine (lives6_any HC HFI HST _ (HGB.below (below_after HB1.out hbr4))).mono ?_
        rintro e w5 ⟨rfl, hb5⟩
        go_wp2_with fail
        go_ret
        exact ⟨rfl, below_after HB1.out (below_after hbr4 hb5)⟩
      | false =>
        go_wp2_with fail
        refine (lives6_any HC HFI HST _ (HGB.below (below_after HB1.out hbr4))).mono ?_
        rintro e w5 ⟨rfl, hb5⟩
        go_wp2_with fail
        go_ret
        exact ⟨rfl, below_after HB1.out (below_after hbr4 hb5)⟩

end Go.Proofs.Ytoidjkkjnhnbhaa

/- Part Clsd. -/
namespace Go.Proofs.Ytoidjkkjnhnbhaa
open Go.RowKit Go.Maps Go.Sort Go.Shelf
set_option linter.unusedVariables false

theorem clN_mem (x : List UInt8) : x ∈ clN ↔ (clG x).isSome = true := by
  rw [clG_eq]
  by_cases h : x = mdK6 ∨ x = mdK5 ∨ x = mdK4 ∨ x = mdK3 ∨ x = mdK2 ∨ x = mdK1 ∨ x = mdK0
  · rcases h with rfl | rfl | rfl | rfl | rfl | rfl | rfl <;> decide +kernel
  · simp only [not_or] at h
    obtain ⟨h6, h5, h4, h3, h2, h1, h0⟩ := h
    unfold mdK0 at h0
    unfold mdK1 at h1
    unfold mdK2 at h2
    unfold mdK3 at h3
    unfold mdK4 at h4
    unfold mdK5 at h5
    unfold mdK6 at h6
    have hc : closedBy x = [] := by
      unfold closedBy
      rw [if_neg h0, if_neg h1, if_neg (by rintro (e | e); exact h2 e; exact h3 e), if_neg h4, if_neg h5, if_neg h6]
    rw [if_pos hc]
    unfold clN
    simp only [List.mem_cons, List.not_mem_nil, or_false]
    constructor
    · rintro (e | e | e | e | e | e | e)
      · exact absurd e h3
      · exact absurd e h2
      · exact absurd e h1
      · exact absurd e h4
      · exact absurd e h0
      · exact absurd e h5
      · exact absurd e h6
    · intro e; cases e
theorem clN_sorted : clN.mergeSort leB = clN := List.mergeSort_of_pairwise (by decide +kernel)

/-- What the map's keys are, rising. -/
theorem made_keys {w : World} {b : Nat} (h : Made w b) : ∃ D : DataW Unit, w.ownsMap Try.prog 9 slcElem b 7 D ∧ Maps.size D = 7 ∧ ∀ ss : List (List UInt8), ss.Perm (strKeys D) → ss.length = 7 ∧ ss.mergeSort leB = clN := by
  obtain ⟨f, D, hown, hv, hc⟩ := h
  have hp : clN.Perm (strKeys D) := Collected.perm (left := fun _ => false) ⟨by decide +kernel, fun x => by rw [(hv.2 x).1, (hc x).1, clN_mem]; simp⟩ hown strKeyed Try.underlying9 (fun _ => rfl)
  refine ⟨D, hown, ?_, fun ss hs => ⟨?_, ?_⟩⟩
  · obtain ⟨es, rfl, _⟩ := hown.keysOf
    have := hp.length_eq
    simp [strKeys, clN] at this
    show es.length = 7
    exact this.symm
  · have := (hs.trans hp.symm).length_eq
    exact this
  · rw [mergeSort_of_perm (hs.trans hp.symm), clN_sorted]

set_option maxHeartbeats 1000000 in
set_option maxRecDepth 100000 in
theorem ClosedD : ClosedSaid := by
  intro w
  refine (callsIn_wide (n := 6)).1 ?_
  refine callsIn_of_wp Try.func6 rfl trivial ?_ rfl
  simp only [Try.ntmps6, List.size_toArray, List.length_nil, Nat.reduceSub, Array.replicate_succ, Array.replicate_zero, List.push_toArray, List.append_toArray, List.nil_append, List.cons_append]
  gi_wp2_with (first
    | (refine ⟨trivial, ?_⟩; gi_at_call 19; refine (callsIn_wide.2 (made_any _)).mono ?_; rintro e w1 ⟨B, rfl, hM, hb1⟩; obtain ⟨D, hown, hsz, hks⟩ := made_keys hM)
    | (refine ⟨trivial, ?_⟩; gi_at_call 18; refine (AnyZ.keys_in Try.itkeys Fence.wide 5 trivial rfl (some B) w1).mono ?_; rintro e w2 ⟨rfl, rfl⟩)
    | (refine ⟨trivial, ?_⟩
       gi_at_call 17
       have hbl := hown.lt
       have hseq : SeqGives Fence.wide 2 Try.prog 31 #[.pointer (some ⟨w1.heap.size, 0, none⟩)] encStr (fun ss => ss.Perm (strKeys D)) (Maps.size D) (w1.alloc (.cells #[.map (some B)] 39)) :=
         AnyZ.keys_gives (ρ := Try.itkeys_ren) { Try.itkeys with } Fence.wide _ trivial rfl (by omega) w1.heap.size B 7 D _ (by simp) (by simp) (by
           obtain ⟨es, clock, hb, Ft, hs, hD⟩ := hown
           exact ⟨es, clock, (Below.heap_alloc _ _ B hbl).trans hb, Ft, hs, hD⟩)
       refine (AnyZ.sorted_in Try.itsorted Fence.wide 5 trivial trivial trivial trivial rfl (by omega)
         ⟨fun blk off cap ss W hH hblk hsz => callsIn_wide.2 (AnyM.slices_Sort_string Try.itsort blk off cap ss W hH hblk hsz), fun p cap W => callsIn_wide.2 (AnyM.slices_Sort_string_none Try.itsort p cap W)⟩
         (enters_of Try.func30 (by kernel_rfl) rfl) 31 _ trivial (enters_of Try.func31 (by kernel_rfl) rfl) _ _ (by rw [hsz]; decide) (by rw [hsz]; decide) _ hseq).mono ?_
       rintro e w3 ⟨v, ss, rfl, hS, hrow, hnil, hb3⟩))
  obtain ⟨hl7, hms⟩ := hks ss hS
  have hB3 : Below w.heap.size w w3 := below_after hb1 (below_after (below_new w1 _) hb3)
  rw [show (fun x y : List UInt8 => decide (x ≤ y)) = leB from rfl, hms, hl7] at hrow
  obtain ⟨_, hrow⟩ := hrow
  rcases hrow with ⟨_, h0⟩ | ⟨g, cap, cur, rfl, hg, hh, hn, hm, hcs, htk⟩
  · cases h0
  have HX := Lib.hid (show ∀ (j : Nat) (x : List UInt8), clN[j]? = some x → w3.cell? ⟨g, 0 + j, none⟩ = some (.string (tB x)) by
    intro j x hj
    have hj7 : j < 7 := (List.getElem?_eq_some_iff.1 hj).1
    rw [Nat.zero_add, cell_at hh, ← Array.getElem?_toList]
    have : (cur.toList.take (7 * 1))[j]? = cur.toList[j]? := by rw [List.getElem?_take, if_pos (by omega)]
    rw [← this, htk, List.getElem?_map, hj]
    rfl)
  have HG := Lib.hid (show g < w3.heap.size from (Array.getElem?_eq_some_iff.1 hh).1)
  have HB := Lib.hid hB3
  clear hms hh htk hcs hnil hS hB3 hb3
  gi_wp2
  go_ret
  exact ⟨g, 0, cap, rfl, hn, HG.out, HX.out, HB.out⟩

end Go.Proofs.Ytoidjkkjnhnbhaa

/- Part TkPM. -/
namespace Go.Proofs.Ytoidjkkjnhnbhaa
set_option linter.unusedVariables false

/-! ### characters and bytes -/
theorem dec_lo {l : List UInt8} (h : byt l 0 < 128) : dec l = (byt l 0, 1) := by unfold dec; rw [if_pos h]
theorem cont_hi {l : List UInt8} {k : Nat} (h : cont l k = true) : 128 ≤ byt l k := by
  unfold cont at h
  simp at h
  omega
theorem dec_hi {l : List UInt8} (h : ¬ byt l 0 < 128) : 128 ≤ (dec l).1 ∧ ∀ j, j < (dec l).2 → 128 ≤ byt l j := by
  have h0 : 128 ≤ byt l 0 := by omega
  have one : ∀ j, j < 1 → 128 ≤ byt l j := fun j hj => by
    obtain rfl : j = 0 := by omega
    exact h0
  unfold dec
  rw [if_neg h]
  split
  · rename_i h1
    have c1 := cont_hi h1.2
    split
    · refine ⟨by assumption, fun j hj => ?_⟩
      rcases (show j = 0 ∨ j = 1 by simp at hj; omega) with rfl | rfl
      · exact h0
      · exact c1
    · exact ⟨by decide, one⟩
  split
  · rename_i h1
    have c1 := cont_hi h1.2.1
    have c2 := cont_hi h1.2.2
    split
    · rename_i h2
      refine ⟨by simp; omega, fun j hj => ?_⟩
      rcases (show j = 0 ∨ j = 1 ∨ j = 2 by simp at hj; omega) with rfl | rfl | rfl
      · exact h0
      · exact c1
      · exact c2
    · exact ⟨by decide, one⟩
  split
  · rename_i h1
    have c1 := cont_hi h1.2.1
    have c2 := cont_hi h1.2.2.1
    have c3 := cont_hi h1.2.2.2
    split
    · rename_i h2
      refine ⟨by simp; omega, fun j hj => ?_⟩
      rcases (show j = 0 ∨ j = 1 ∨ j = 2 ∨ j = 3 by simp at hj; omega) with rfl | rfl | rfl | rfl
      · exact h0
      · exact c1
      · exact c2
      · exact c3
    · exact ⟨by decide, one⟩
  exact ⟨by decide, one⟩
theorem byt_drop {l : List UInt8} {p : Nat} (j : Nat) : byt (l.drop p) j = byt l (p + j) := by
  unfold byt
  rw [List.getD_eq_getElem?_getD, List.getD_eq_getElem?_getD, List.getElem?_drop]
theorem byt_get {l : List UInt8} {k : Nat} (h : k < l.length) : byt l k = l[k].toNat := by
  unfold byt
  rw [List.getD_eq_getElem?_getD, List.getElem?_eq_getElem h]
  rfl

/-- A character at place p: a byte of its own, or some that are 128 or more. -/
theorem char_at {l : List UInt8} {p : Nat} {r d : Nat} (hp : p < l.length) (hd : dec (l.drop p) = (r, d)) :
    1 ≤ d ∧ p + d ≤ l.length ∧ okR r ∧ ((r < 128 ∧ d = 1 ∧ l[p].toNat = r) ∨ (128 ≤ r ∧ ∀ j (h : j < l.length), p ≤ j → j < p + d → 128 ≤ l[j].toNat)) := by
  have hw := dec_width (l := l.drop p) (by rw [List.length_drop]; omega)
  have ho := dec_ok (l.drop p)
  rw [hd] at hw ho
  rw [List.length_drop] at hw
  simp only at hw ho
  refine ⟨hw.1, by omega, ho, ?_⟩
  by_cases h : byt (l.drop p) 0 < 128
  · have e := dec_lo h
    rw [hd] at e
    injection e with e1 e2
    subst e1
    rw [byt_drop, Nat.add_zero, byt_get hp] at h ⊢
    exact .inl ⟨h, e2, rfl⟩
  · have e := dec_hi h
    rw [hd] at e
    refine .inr ⟨e.1, fun j hj h1 h2 => ?_⟩
    have := e.2 (j - p) (by show j - p < d; omega)
    rw [byt_drop, show p + (j - p) = j by omega, byt_get hj] at this
    exact this

/-! ### as long as .. -/
theorem span_at {p : UInt8 → Bool} : ∀ (l : List UInt8) (k : Nat), k ≤ l.length → (∀ j (h : j < l.length), j < k → p l[j] = true) → (∀ (h : k < l.length), p l[k] = false) → l.takeWhile p = l.take k ∧ l.dropWhile p = l.drop k
  | [], k, hk, _, _ => by simp
  | c :: r, 0, _, _, h => by
    have := h (by simp)
    rw [List.getElem_cons_zero] at this
    rw [List.takeWhile_cons, List.dropWhile_cons, if_neg (by rw [this]; decide), if_neg (by rw [this]; decide)]
    exact ⟨rfl, rfl⟩
  | c :: r, k + 1, hk, hj, h => by
    have h0 := hj 0 (by simp) (by omega)
    rw [List.getElem_cons_zero] at h0
    have := span_at r k (by simpa using hk) (fun j hjl hjk => by have := hj (j + 1) (by simp; omega) (by omega); rwa [List.getElem_cons_succ] at this) (fun hk => by have := h (by simp; omega); rwa [List.getElem_cons_succ] at this)
    rw [List.takeWhile_cons, List.dropWhile_cons, if_pos h0, if_pos h0, this.1, this.2]
    exact ⟨rfl, rfl⟩
theorem charsB_at : ∀ (l : List UInt8) (k : Nat), k ≤ l.length → (∀ j, j < k → startsB (l.drop j) = false) → (k < l.length → startsB (l.drop k) = true) → charsB l = (l.take k, l.drop k)
  | [], k, _, _, _ => by simp [charsB]
  | c :: r, 0, _, _, h => by
    have : startsB (c :: r) = true := h (by simp)
    rw [charsB_cons, if_pos this]
    rfl
  | c :: r, k + 1, hk, hj, h => by
    have h0 : startsB (c :: r) = false := hj 0 (by omega)
    have := charsB_at r k (by simpa using hk) (fun j hjk => hj (j + 1) (by omega)) (fun hk => h (by simpa using hk))
    rw [charsB_cons, if_neg (by rw [h0]; decide), this]
    rfl
theorem cutEnd_k (nm : List UInt8) : ∀ (l : List UInt8) (k : Nat), k ≤ l.length → (∀ j, j < k → endAt nm (l.drop j) = false) → (k < l.length → endAt nm (l.drop k) = true) → cutEnd nm l = (l.take k, l.drop k)
  | [], k, _, _, _ => by simp [cutEnd]
  | c :: r, 0, _, _, h => by
    have : endAt nm (c :: r) = true := h (by simp)
    rw [cutEnd_cons, if_pos this]
    rfl
  | c :: r, k + 1, hk, hj, h => by
    have h0 : endAt nm (c :: r) = false := hj 0 (by omega)
    have := cutEnd_k nm r k (by simpa using hk) (fun j hjk => hj (j + 1) (by omega)) (fun hk => h (by simpa using hk))
    rw [cutEnd_cons, if_neg (by rw [h0]; decide), this]
    rfl
theorem starts_at {l : List UInt8} {j : Nat} (hj : j < l.length) (h : l[j].toNat ≠ 60) : startsB (l.drop j) = false := by
  rw [List.drop_eq_getElem_cons hj]
  cases l.drop (j + 1) with
  | nil => rfl
  | cons d r =>
    have : decide (l[j] = 60) = false := by
      rw [decide_eq_false_iff_not]
      intro e
      rw [e] at h
      exact h rfl
    simp only [startsB, this, Bool.false_and]
theorem lowB_60 {c : UInt8} (h : lowB c = 60) : c = 60 := by
  have := lowB_toNat c
  rw [h] at this
  apply UInt8.toNat_inj.1
  show c.toNat = 60
  have h60 : (60 : UInt8).toNat = 60 := rfl
  rw [h60] at this
  split at this <;> omega
theorem endAt_ne {nm l : List UInt8} {j : Nat} (hj : j < l.length) (h : l[j].toNat ≠ 60) : endAt nm (l.drop j) = false := by
  rw [List.drop_eq_getElem_cons hj]
  unfold endAt
  rw [Bool.and_eq_false_iff]
  refine .inl ?_
  rw [decide_eq_false_iff_not, show 2 + nm.length = (1 + nm.length) + 1 by omega, List.take_succ_cons, List.map_cons]
  intro e
  injection e with e1 e2
  have := lowB_60 e1
  rw [this] at h
  exact h rfl

/-! ### strings.Cut -/
theorem cut_cons (b : UInt8) (l sep : List UInt8) : Lib.cut (b :: l) sep = if sep.isPrefixOf (b :: l) = true then ([], (b :: l).drop sep.length, true) else (b :: (Lib.cut l sep).1, (Lib.cut l sep).2.1, (Lib.cut l sep).2.2) := by
  have e : Lib.index (b :: l) sep = if sep.isPrefixOf (b :: l) = true then 0 else if Lib.index l sep == -1 then -1 else Lib.index l sep + 1 := rfl
  have hge := Lib.index_ge l sep
  unfold Lib.cut
  rw [e]
  by_cases hp : sep.isPrefixOf (b :: l) = true
  · rw [if_pos hp, if_pos hp, if_pos (by omega)]
    simp
  · rw [if_neg hp, if_neg hp]
    by_cases hi : Lib.index l sep = -1
    · rw [hi]
      simp
    · have : (Lib.index l sep == -1) = false := by rw [beq_eq_false_iff_ne]; exact hi
      rw [this]
      have h0 : 0 ≤ Lib.index l sep := by omega
      obtain ⟨n, hn⟩ := Int.eq_ofNat_of_zero_le h0
      rw [hn]
      have h1 : ((n : Int) + 1).toNat = n + 1 := by omega
      rw [if_neg (show ¬ (false = true) by decide), if_pos (by omega), if_pos (by omega), h1, List.take_succ_cons, show n + 1 + sep.length = (n + sep.length) + 1 by omega, List.drop_succ_cons]
      simp
theorem cut_nil {sep : List UInt8} (h : sep ≠ []) : Lib.cut [] sep = ([], [], false) := by
  unfold Lib.cut Lib.index
  cases sep with
  | nil => exact absurd rfl h
  | cons a r => rfl
theorem cut_three : ∀ l : List UInt8, (Lib.cut l [45, 45, 62]).1 = (upTo3 l).1 ∧ (Lib.cut l [45, 45, 62]).2.1 = (upTo3 l).2
  | [] => by rw [cut_nil (by simp)]; exact ⟨rfl, rfl⟩
  | c :: r => by
    have ih := cut_three r
    rw [cut_cons, upTo3_cons]
    by_cases h : Lib.hasPrefix (c :: r) [45, 45, 62] = true
    · have h' : ([45, 45, 62] : List UInt8).isPrefixOf (c :: r) = true := h
      rw [if_pos h, if_pos h']
      exact ⟨rfl, rfl⟩
    · have h' : ¬ ([45, 45, 62] : List UInt8).isPrefixOf (c :: r) = true := h
      rw [if_neg h, if_neg h']
      exact ⟨by show c :: _ = c :: _; rw [ih.1], ih.2⟩
theorem cut_gt : ∀ l : List UInt8, (Lib.cut l [62]).1 = (upTo1 l).1 ∧ (Lib.cut l [62]).2.1 = (upTo1 l).2
  | [] => by rw [cut_nil (by simp)]; exact ⟨rfl, rfl⟩
  | c :: r => by
    have ih := cut_gt r
    have e : ([62] : List UInt8).isPrefixOf (c :: r) = (62 == c) := by
      show ((62 == c) && _) = _
      simp
    unfold upTo1 at ih ⊢
    rw [cut_cons, e, List.takeWhile_cons, List.dropWhile_cons]
    by_cases h : c = 62
    · subst h
      rw [if_pos (by rfl), if_neg (by decide), if_neg (by decide)]
      exact ⟨rfl, rfl⟩
    · have h1 : (62 == c) = false := by rw [beq_eq_false_iff_ne]; exact fun e => h e.symm
      have h2 : neC 62 c = true := by simp [neC, h]
      rw [h1, h2, if_neg (by decide), if_pos rfl, if_pos rfl]
      exact ⟨by show c :: _ = c :: _; rw [ih.1], ih.2⟩

end Go.Proofs.Ytoidjkkjnhnbhaa

/- Part TkA. -/
namespace Go.Proofs.Ytoidjkkjnhnbhaa
open Go.RowKit
set_option linter.unusedVariables false

/-- A letter; a character of a tag's name. -/
def letZ (r : Int) : Bool := (decide (65 ≤ r) && decide (r ≤ 90)) || (decide (97 ≤ r) && decide (r ≤ 122))
def tagZ (r : Int) : Bool := letZ r || (decide (48 ≤ r) && decide (r ≤ 57)) || (r == 45)
theorem letZ_byte (c : UInt8) : letZ (c.toNat : Int) = letC c := by
  unfold letZ letC
  have h1 : decide ((65 : Int) ≤ c.toNat) = decide (65 ≤ c.toNat) := by rw [decide_eq_decide]; omega
  have h2 : decide ((c.toNat : Int) ≤ 90) = decide (c.toNat ≤ 90) := by rw [decide_eq_decide]; omega
  have h3 : decide ((97 : Int) ≤ c.toNat) = decide (97 ≤ c.toNat) := by rw [decide_eq_decide]; omega
  have h4 : decide ((c.toNat : Int) ≤ 122) = decide (c.toNat ≤ 122) := by rw [decide_eq_decide]; omega
  rw [h1, h2, h3, h4]
theorem tagZ_byte (c : UInt8) : tagZ (c.toNat : Int) = tagC c := by
  unfold tagZ tagC
  have h1 : decide ((48 : Int) ≤ c.toNat) = decide (48 ≤ c.toNat) := by rw [decide_eq_decide]; omega
  have h2 : decide ((c.toNat : Int) ≤ 57) = decide (c.toNat ≤ 57) := by rw [decide_eq_decide]; omega
  have h3 : ((c.toNat : Int) == 45) = decide (c.toNat = 45) := by rw [Bool.eq_iff_iff, beq_iff_eq, decide_eq_true_eq]; omega
  rw [letZ_byte, h1, h2, h3]
theorem tagZ_hi {r : Int} (h : 128 ≤ r) : tagZ r = false := by
  unfold tagZ letZ
  simp
  omega
theorem tagC_hi {c : UInt8} (h : 128 ≤ c.toNat) : tagC c = false := by rw [← tagZ_byte]; exact tagZ_hi (by omega)

theorem starts_at0 {s : ByteArray} {l : List UInt8} (hl : s.data.toList = l) (k : Nat) (h : k < s.size) : l[k]? = some s[k] := by
  rw [← hl, List.getElem?_eq_getElem (by simpa using h)]
  rfl

end Go.Proofs.Ytoidjkkjnhnbhaa

/- Part Shelf. -/
namespace Go.Proofs
open Go.Shelf
def Try.lays217_ren : Go.Shelf.Ren := ⟨fun | 217 => 107 | 266 => 112 | n => n, fun | 9 => 9 | 5 => 5 | 3 => 3 | 20 => 20 | n => n, fun | n => n⟩
theorem Try.lays217 : Go.Proofs.Lays.n217 Try.prog Try.lays217_ren := {
  mixed := by kernel_rfl
  f217 := Try.func107.trans (congrArg some (by kernel_rfl))
  f266 := Try.func112.trans (congrArg some (by kernel_rfl))
  t3 := Try.underlying3
  a3 := Try.isAgg3
  z3 := Try.sizeOf3
  v3 := Try.zeroValue3
  t5 := Try.underlying5
  a5 := Try.isAgg5
  z5 := Try.sizeOf5
  v5 := Try.zeroValue5
  t9 := Try.underlying9
  a9 := Try.isAgg9
  z9 := Try.sizeOf9
  v9 := Try.zeroValue9 }
open Go.RowKit Go.Lib in
theorem Try.stringslite_IndexByte (s : ByteArray) (c : Int) (w : World) :
    Calls Try.prog 107 #[.string s, .int .u8 c] w fun e w' => e = .returned (.int .i64 (Lib.indexByte s.data.toList c.toNat.toUInt8)) ∧ w' = w := Any.stringslite_IndexByte Try.lays217 s c w
def Try.lays224_ren : Go.Shelf.Ren := ⟨fun | 224 => 109 | n => n, fun | 3 => 3 | 9 => 9 | 20 => 20 | n => n, fun | n => n⟩
theorem Try.lays224 : Go.Proofs.Lays.n224 Try.prog Try.lays224_ren := {
  mixed := by kernel_rfl
  f224 := Try.func109.trans (congrArg some (by kernel_rfl))
  t3 := Try.underlying3
  a3 := Try.isAgg3
  z3 := Try.sizeOf3
  v3 := Try.zeroValue3 }
open Go.RowKit Go.Lib in
theorem Try.bytealg_Cutover (n : Int) (h0 : 0 ≤ n) (h1 : n < 4611686018427387904) (w : World) :
    Calls Try.prog 109 #[.int .i64 n] w fun e w' => e = .returned (.int .i64 ((n + 16) / 8)) ∧ w' = w := Any.bytealg_Cutover Try.lays224 n h0 h1 w
def Try.lays314_ren : Go.Shelf.Ren := ⟨fun | 314 => 113 | n => n, fun | 9 => 9 | 51 => 82 | 3 => 3 | 4 => 4 | 5 => 5 | 46 => 63 | 20 => 20 | n => n, fun | n => n⟩
theorem Try.lays314 : Go.Proofs.Lays.n314 Try.prog Try.lays314_ren := {
  mixed := by kernel_rfl
  f314 := Try.func113.trans (congrArg some (by kernel_rfl))
  t3 := Try.underlying3
  a3 := Try.isAgg3
  z3 := Try.sizeOf3
  v3 := Try.zeroValue3
  t4 := Try.underlying4
  a4 := Try.isAgg4
  z4 := Try.sizeOf4
  v4 := Try.zeroValue4
  t5 := Try.underlying5
  a5 := Try.isAgg5
  z5 := Try.sizeOf5
  v5 := Try.zeroValue5
  t9 := Try.underlying9
  a9 := Try.isAgg9
  z9 := Try.sizeOf9
  v9 := Try.zeroValue9
  t46 := Try.underlying63
  a46 := Try.isAgg63
  z46 := Try.sizeOf63
  v46 := Try.zeroValue63
  t51 := Try.underlying82
  a51 := Try.isAgg82
  z51 := Try.sizeOf82
  v51 := Try.zeroValue82 }
open Go.RowKit Go.Lib in
theorem Try.bytealg_hashStr (sep : ByteArray) (hs : sep.size < 4294967281) (w : World) :
    Calls Try.prog 113 #[.string sep] w fun e w' => e = .returned (.tuple #[.int .u32 (RK.H sep.data.toList % 4294967296), .int .u32 (16777619 ^ sep.size % 4294967296)]) ∧ w' = w := Any.bytealg_hashStr Try.lays314 sep hs w
def Try.lays267_ren : Go.Shelf.Ren := ⟨fun | 267 => 110 | 314 => 113 | n => n, fun | 9 => 9 | 3 => 3 | 146 => 108 | 51 => 82 | 4 => 4 | 5 => 5 | 46 => 63 | 20 => 20 | n => n, fun | n => n⟩
theorem Try.lays267 : Go.Proofs.Lays.n267 Try.prog Try.lays267_ren := {
  mixed := by kernel_rfl
  f267 := Try.func110.trans (congrArg some (by kernel_rfl))
  f314 := Try.func113.trans (congrArg some (by kernel_rfl))
  t3 := Try.underlying3
  a3 := Try.isAgg3
  z3 := Try.sizeOf3
  v3 := Try.zeroValue3
  t4 := Try.underlying4
  a4 := Try.isAgg4
  z4 := Try.sizeOf4
  v4 := Try.zeroValue4
  t5 := Try.underlying5
  a5 := Try.isAgg5
  z5 := Try.sizeOf5
  v5 := Try.zeroValue5
  t9 := Try.underlying9
  a9 := Try.isAgg9
  z9 := Try.sizeOf9
  v9 := Try.zeroValue9
  t46 := Try.underlying63
  a46 := Try.isAgg63
  z46 := Try.sizeOf63
  v46 := Try.zeroValue63
  t51 := Try.underlying82
  a51 := Try.isAgg82
  z51 := Try.sizeOf82
  v51 := Try.zeroValue82
  t146 := Try.underlying108
  a146 := Try.isAgg108
  z146 := Try.sizeOf108
  v146 := Try.zeroValue108 }
open Go.RowKit Go.Lib in
theorem Try.bytealg_IndexRabinKarp (s sep : ByteArray) (h1 : 1 ≤ sep.size) (h2 : sep.size ≤ s.size) (hs : s.size < 4294967281) (w : World) :
    Calls Try.prog 110 #[.string s, .string sep] w fun e w' => e = .returned (.int .i64 (Lib.index s.data.toList sep.data.toList)) ∧ w' = w := Any.bytealg_IndexRabinKarp Try.lays267 s sep h1 h2 hs w
def Try.lays219_ren : Go.Shelf.Ren := ⟨fun | 219 => 102 | 217 => 107 | 225 => 108 | 224 => 109 | 267 => 110 | 266 => 112 | 314 => 113 | n => n, fun | 9 => 9 | 3 => 3 | 4 => 4 | 5 => 5 | 46 => 63 | 146 => 108 | 51 => 82 | 20 => 20 | n => n, fun | 1 => 0 | n => n⟩
theorem Try.lays219 : Go.Proofs.Lays.n219 Try.prog Try.lays219_ren := {
  mixed := by kernel_rfl
  f217 := Try.func107.trans (congrArg some (by kernel_rfl))
  f219 := Try.func102.trans (congrArg some (by kernel_rfl))
  f224 := Try.func109.trans (congrArg some (by kernel_rfl))
  f225 := Try.func108.trans (congrArg some (by kernel_rfl))
  f266 := Try.func112.trans (congrArg some (by kernel_rfl))
  f267 := Try.func110.trans (congrArg some (by kernel_rfl))
  f314 := Try.func113.trans (congrArg some (by kernel_rfl))
  t3 := Try.underlying3
  a3 := Try.isAgg3
  z3 := Try.sizeOf3
  v3 := Try.zeroValue3
  t4 := Try.underlying4
  a4 := Try.isAgg4
  z4 := Try.sizeOf4
  v4 := Try.zeroValue4
  t5 := Try.underlying5
  a5 := Try.isAgg5
  z5 := Try.sizeOf5
  v5 := Try.zeroValue5
  t9 := Try.underlying9
  a9 := Try.isAgg9
  z9 := Try.sizeOf9
  v9 := Try.zeroValue9
  t46 := Try.underlying63
  a46 := Try.isAgg63
  z46 := Try.sizeOf63
  v46 := Try.zeroValue63
  t51 := Try.underlying82
  a51 := Try.isAgg82
  z51 := Try.sizeOf82
  v51 := Try.zeroValue82
  t146 := Try.underlying108
  a146 := Try.isAgg108
  z146 := Try.sizeOf108
  v146 := Try.zeroValue108
  g1 := by kernel_rfl }
open Go.RowKit Go.Lib in
theorem Try.stringslite_Index_one (s : ByteArray) (c : UInt8) (w : World) :
    Calls Try.prog 102 #[.string s, .string ⟨#[c]⟩] w fun e w' => e = .returned (.int .i64 (Lib.indexByte s.data.toList c)) ∧ w' = w := Any.stringslite_Index_one Try.lays219 s c w
open Go.RowKit Go.Lib in
theorem Try.stringslite_Index (s sub : ByteArray) (m : Int) (w : World) (hs : s.size < 4294967281) (hm : w.cell? ⟨0, 0, none⟩ = some (.int .i64 m)) :
    Calls Try.prog 102 #[.string s, .string sub] w fun e w' => e = .returned (.int .i64 (Lib.index s.data.toList sub.data.toList)) ∧ w' = w := Any.stringslite_Index Try.lays219 s sub m w hs hm
def Try.lays143_ren : Go.Shelf.Ren := ⟨fun | 143 => 86 | 219 => 102 | 217 => 107 | 225 => 108 | 224 => 109 | 267 => 110 | 266 => 112 | 314 => 113 | n => n, fun | 9 => 9 | 3 => 3 | 4 => 4 | 5 => 5 | 46 => 63 | 146 => 108 | 51 => 82 | 20 => 20 | n => n, fun | 1 => 0 | n => n⟩
theorem Try.lays143 : Go.Proofs.Lays.n143 Try.prog Try.lays143_ren := {
  mixed := by kernel_rfl
  f143 := Try.func86.trans (congrArg some (by kernel_rfl))
  f217 := Try.func107.trans (congrArg some (by kernel_rfl))
  f219 := Try.func102.trans (congrArg some (by kernel_rfl))
  f224 := Try.func109.trans (congrArg some (by kernel_rfl))
  f225 := Try.func108.trans (congrArg some (by kernel_rfl))
  f266 := Try.func112.trans (congrArg some (by kernel_rfl))
  f267 := Try.func110.trans (congrArg some (by kernel_rfl))
  f314 := Try.func113.trans (congrArg some (by kernel_rfl))
  t3 := Try.underlying3
  a3 := Try.isAgg3
  z3 := Try.sizeOf3
  v3 := Try.zeroValue3
  t4 := Try.underlying4
  a4 := Try.isAgg4
  z4 := Try.sizeOf4
  v4 := Try.zeroValue4
  t5 := Try.underlying5
  a5 := Try.isAgg5
  z5 := Try.sizeOf5
  v5 := Try.zeroValue5
  t9 := Try.underlying9
  a9 := Try.isAgg9
  z9 := Try.sizeOf9
  v9 := Try.zeroValue9
  t46 := Try.underlying63
  a46 := Try.isAgg63
  z46 := Try.sizeOf63
  v46 := Try.zeroValue63
  t51 := Try.underlying82
  a51 := Try.isAgg82
  z51 := Try.sizeOf82
  v51 := Try.zeroValue82
  t146 := Try.underlying108
  a146 := Try.isAgg108
  z146 := Try.sizeOf108
  v146 := Try.zeroValue108
  g1 := by kernel_rfl }
open Go.RowKit Go.Lib in
theorem Try.strings_Index_one (s : ByteArray) (c : UInt8) (w : World) :
    Calls Try.prog 86 #[.string s, .string ⟨#[c]⟩] w fun e w' => e = .returned (.int .i64 (Lib.indexByte s.data.toList c)) ∧ w' = w := Any.strings_Index_one Try.lays143 s c w
open Go.RowKit Go.Lib in
theorem Try.strings_Index (s sub : ByteArray) (m : Int) (w : World) (hs : s.size < 4294967281) (hm : w.cell? ⟨0, 0, none⟩ = some (.int .i64 m)) :
    Calls Try.prog 86 #[.string s, .string sub] w fun e w' => e = .returned (.int .i64 (Lib.index s.data.toList sub.data.toList)) ∧ w' = w := Any.strings_Index Try.lays143 s sub m w hs hm
def Try.lays144_ren : Go.Shelf.Ren := ⟨fun | 144 => 62 | 143 => 86 | 219 => 102 | 217 => 107 | 225 => 108 | 224 => 109 | 267 => 110 | 266 => 112 | 314 => 113 | n => n, fun | 9 => 9 | 4 => 4 | 3 => 3 | 5 => 5 | 46 => 63 | 146 => 108 | 51 => 82 | 20 => 20 | n => n, fun | 1 => 0 | n => n⟩
theorem Try.lays144 : Go.Proofs.Lays.n144 Try.prog Try.lays144_ren := {
  mixed := by kernel_rfl
  f143 := Try.func86.trans (congrArg some (by kernel_rfl))
  f144 := Try.func62.trans (congrArg some (by kernel_rfl))
  f217 := Try.func107.trans (congrArg some (by kernel_rfl))
  f219 := Try.func102.trans (congrArg some (by kernel_rfl))
  f224 := Try.func109.trans (congrArg some (by kernel_rfl))
  f225 := Try.func108.trans (congrArg some (by kernel_rfl))
  f266 := Try.func112.trans (congrArg some (by kernel_rfl))
  f267 := Try.func110.trans (congrArg some (by kernel_rfl))
  f314 := Try.func113.trans (congrArg some (by kernel_rfl))
  t3 := Try.underlying3
  a3 := Try.isAgg3
  z3 := Try.sizeOf3
  v3 := Try.zeroValue3
  t4 := Try.underlying4
  a4 := Try.isAgg4
  z4 := Try.sizeOf4
  v4 := Try.zeroValue4
  t5 := Try.underlying5
  a5 := Try.isAgg5
  z5 := Try.sizeOf5
  v5 := Try.zeroValue5
  t9 := Try.underlying9
  a9 := Try.isAgg9
  z9 := Try.sizeOf9
  v9 := Try.zeroValue9
  t46 := Try.underlying63
  a46 := Try.isAgg63
  z46 := Try.sizeOf63
  v46 := Try.zeroValue63
  t51 := Try.underlying82
  a51 := Try.isAgg82
  z51 := Try.sizeOf82
  v51 := Try.zeroValue82
  t146 := Try.underlying108
  a146 := Try.isAgg108
  z146 := Try.sizeOf108
  v146 := Try.zeroValue108
  g1 := by kernel_rfl }
open Go.RowKit Go.Lib in
theorem Try.strings_Contains_one (s : ByteArray) (c : UInt8) (w : World) :
    Calls Try.prog 62 #[.string s, .string ⟨#[c]⟩] w fun e w' => e = .returned (.bool (decide (0 ≤ Lib.indexByte s.data.toList c))) ∧ w' = w := Any.strings_Contains_one Try.lays144 s c w
open Go.RowKit Go.Lib in
theorem Try.strings_Contains (s sub : ByteArray) (m : Int) (w : World) (hs : s.size < 4294967281) (hm : w.cell? ⟨0, 0, none⟩ = some (.int .i64 m)) :
    Calls Try.prog 62 #[.string s, .string sub] w fun e w' => e = .returned (.bool (Lib.contains s.data.toList sub.data.toList)) ∧ w' = w := Any.strings_Contains Try.lays144 s sub m w hs hm
def Try.laysM219_ren : Go.Shelf.Ren := ⟨fun | 219 => 102 | 217 => 107 | 225 => 108 | 224 => 109 | 267 => 110 | 266 => 112 | 314 => 113 | n => n, fun | 9 => 9 | 3 => 3 | 4 => 4 | 5 => 5 | 46 => 63 | 146 => 108 | 51 => 82 | 20 => 20 | n => n, fun | 1 => 0 | n => n⟩
theorem Try.laysM219 : Go.Proofs.LaysM.n219 Try.prog Try.laysM219_ren := {
  mixed := by kernel_rfl
  f217 := Try.func107.trans (congrArg some (by kernel_rfl))
  f219 := Try.func102.trans (congrArg some (by kernel_rfl))
  f224 := Try.func109.trans (congrArg some (by kernel_rfl))
  f225 := Try.func108.trans (congrArg some (by kernel_rfl))
  f266 := Try.func112.trans (congrArg some (by kernel_rfl))
  f267 := Try.func110.trans (congrArg some (by kernel_rfl))
  f314 := Try.func113.trans (congrArg some (by kernel_rfl))
  t3 := Try.underlying3
  a3 := Try.isAgg3
  z3 := Try.sizeOf3
  v3 := Try.zeroValue3
  t4 := Try.underlying4
  a4 := Try.isAgg4
  z4 := Try.sizeOf4
  v4 := Try.zeroValue4
  t5 := Try.underlying5
  a5 := Try.isAgg5
  z5 := Try.sizeOf5
  v5 := Try.zeroValue5
  t9 := Try.underlying9
  a9 := Try.isAgg9
  z9 := Try.sizeOf9
  v9 := Try.zeroValue9
  t46 := Try.underlying63
  a46 := Try.isAgg63
  z46 := Try.sizeOf63
  v46 := Try.zeroValue63
  t51 := Try.underlying82
  a51 := Try.isAgg82
  z51 := Try.sizeOf82
  v51 := Try.zeroValue82
  t146 := Try.underlying108
  a146 := Try.isAgg108
  z146 := Try.sizeOf108
  v146 := Try.zeroValue108
  g1 := by kernel_rfl
  i3 := by kernel_rfl
  i4 := by kernel_rfl
  i5 := by kernel_rfl
  i9 := by kernel_rfl
  i46 := by kernel_rfl
  i51 := by kernel_rfl
  i146 := by kernel_rfl
  m1 := by kernel_rfl
  s1_3 := fun w h => Go.Proofs.cell_of_shapedOpen_int (zero := #[.int .i64 0]) (t := 3) h (of_decide_eq_true (by kernel_rfl)) (by kernel_rfl) rfl (by kernel_rfl) (by kernel_rfl) Try.underlying3 }
open Go.RowKit Go.Lib in
theorem Try.stringslite_Index_shaped (s sub : ByteArray) (w : World) (h : w.ShapedOpen Try.prog) (hs : s.size < 4294967281) :
    Calls Try.prog 102 #[.string s, .string sub] w fun e w' => e = .returned (.int .i64 (Lib.index s.data.toList sub.data.toList)) ∧ w' = w := Any.stringslite_Index_shaped Try.laysM219 s sub w h hs
def Try.laysM143_ren : Go.Shelf.Ren := ⟨fun | 143 => 86 | 219 => 102 | 217 => 107 | 225 => 108 | 224 => 109 | 267 => 110 | 266 => 112 | 314 => 113 | n => n, fun | 9 => 9 | 3 => 3 | 4 => 4 | 5 => 5 | 46 => 63 | 146 => 108 | 51 => 82 | 20 => 20 | n => n, fun | 1 => 0 | n => n⟩
theorem Try.laysM143 : Go.Proofs.LaysM.n143 Try.prog Try.laysM143_ren := {
  mixed := by kernel_rfl
  f143 := Try.func86.trans (congrArg some (by kernel_rfl))
  f217 := Try.func107.trans (congrArg some (by kernel_rfl))
  f219 := Try.func102.trans (congrArg some (by kernel_rfl))
  f224 := Try.func109.trans (congrArg some (by kernel_rfl))
  f225 := Try.func108.trans (congrArg some (by kernel_rfl))
  f266 := Try.func112.trans (congrArg some (by kernel_rfl))
  f267 := Try.func110.trans (congrArg some (by kernel_rfl))
  f314 := Try.func113.trans (congrArg some (by kernel_rfl))
  t3 := Try.underlying3
  a3 := Try.isAgg3
  z3 := Try.sizeOf3
  v3 := Try.zeroValue3
  t4 := Try.underlying4
  a4 := Try.isAgg4
  z4 := Try.sizeOf4
  v4 := Try.zeroValue4
  t5 := Try.underlying5
  a5 := Try.isAgg5
  z5 := Try.sizeOf5
  v5 := Try.zeroValue5
  t9 := Try.underlying9
  a9 := Try.isAgg9
  z9 := Try.sizeOf9
  v9 := Try.zeroValue9
  t46 := Try.underlying63
  a46 := Try.isAgg63
  z46 := Try.sizeOf63
  v46 := Try.zeroValue63
  t51 := Try.underlying82
  a51 := Try.isAgg82
  z51 := Try.sizeOf82
  v51 := Try.zeroValue82
  t146 := Try.underlying108
  a146 := Try.isAgg108
  z146 := Try.sizeOf108
  v146 := Try.zeroValue108
  g1 := by kernel_rfl
  i3 := by kernel_rfl
  i4 := by kernel_rfl
  i5 := by kernel_rfl
  i9 := by kernel_rfl
  i46 := by kernel_rfl
  i51 := by kernel_rfl
  i146 := by kernel_rfl
  m1 := by kernel_rfl
  s1_3 := fun w h => Go.Proofs.cell_of_shapedOpen_int (zero := #[.int .i64 0]) (t := 3) h (of_decide_eq_true (by kernel_rfl)) (by kernel_rfl) rfl (by kernel_rfl) (by kernel_rfl) Try.underlying3 }
open Go.RowKit Go.Lib in
theorem Try.strings_Index_shaped (s sub : ByteArray) (w : World) (h : w.ShapedOpen Try.prog) (hs : s.size < 4294967281) :
    Calls Try.prog 86 #[.string s, .string sub] w fun e w' => e = .returned (.int .i64 (Lib.index s.data.toList sub.data.toList)) ∧ w' = w := Any.strings_Index_shaped Try.laysM143 s sub w h hs
def Try.laysM144_ren : Go.Shelf.Ren := ⟨fun | 144 => 62 | 143 => 86 | 219 => 102 | 217 => 107 | 225 => 108 | 224 => 109 | 267 => 110 | 266 => 112 | 314 => 113 | n => n, fun | 9 => 9 | 4 => 4 | 3 => 3 | 5 => 5 | 46 => 63 | 146 => 108 | 51 => 82 | 20 => 20 | n => n, fun | 1 => 0 | n => n⟩
theorem Try.laysM144 : Go.Proofs.LaysM.n144 Try.prog Try.laysM144_ren := {
  mixed := by kernel_rfl
  f143 := Try.func86.trans (congrArg some (by kernel_rfl))
  f144 := Try.func62.trans (congrArg some (by kernel_rfl))
  f217 := Try.func107.trans (congrArg some (by kernel_rfl))
  f219 := Try.func102.trans (congrArg some (by kernel_rfl))
  f224 := Try.func109.trans (congrArg some (by kernel_rfl))
  f225 := Try.func108.trans (congrArg some (by kernel_rfl))
  f266 := Try.func112.trans (congrArg some (by kernel_rfl))
  f267 := Try.func110.trans (congrArg some (by kernel_rfl))
  f314 := Try.func113.trans (congrArg some (by kernel_rfl))
  t3 := Try.underlying3
  a3 := Try.isAgg3
  z3 := Try.sizeOf3
  v3 := Try.zeroValue3
  t4 := Try.underlying4
  a4 := Try.isAgg4
  z4 := Try.sizeOf4
  v4 := Try.zeroValue4
  t5 := Try.underlying5
  a5 := Try.isAgg5
  z5 := Try.sizeOf5
  v5 := Try.zeroValue5
  t9 := Try.underlying9
  a9 := Try.isAgg9
  z9 := Try.sizeOf9
  v9 := Try.zeroValue9
  t46 := Try.underlying63
  a46 := Try.isAgg63
  z46 := Try.sizeOf63
  v46 := Try.zeroValue63
  t51 := Try.underlying82
  a51 := Try.isAgg82
  z51 := Try.sizeOf82
  v51 := Try.zeroValue82
  t146 := Try.underlying108
  a146 := Try.isAgg108
  z146 := Try.sizeOf108
  v146 := Try.zeroValue108
  g1 := by kernel_rfl
  i3 := by kernel_rfl
  i4 := by kernel_rfl
  i5 := by kernel_rfl
  i9 := by kernel_rfl
  i46 := by kernel_rfl
  i51 := by kernel_rfl
  i146 := by kernel_rfl
  m1 := by kernel_rfl
  s1_3 := fun w h => Go.Proofs.cell_of_shapedOpen_int (zero := #[.int .i64 0]) (t := 3) h (of_decide_eq_true (by kernel_rfl)) (by kernel_rfl) rfl (by kernel_rfl) (by kernel_rfl) Try.underlying3 }
open Go.RowKit Go.Lib in
theorem Try.strings_Contains_shaped (s sub : ByteArray) (w : World) (h : w.ShapedOpen Try.prog) (hs : s.size < 4294967281) :
    Calls Try.prog 62 #[.string s, .string sub] w fun e w' => e = .returned (.bool (Lib.contains s.data.toList sub.data.toList)) ∧ w' = w := Any.strings_Contains_shaped Try.laysM144 s sub w h hs
def Try.lays206_ren : Go.Shelf.Ren := ⟨fun | 206 => 106 | n => n, fun | 9 => 9 | 4 => 4 | 3 => 3 | 20 => 20 | n => n, fun | n => n⟩
theorem Try.lays206 : Go.Proofs.Lays.n206 Try.prog Try.lays206_ren := {
  mixed := by kernel_rfl
  f206 := Try.func106.trans (congrArg some (by kernel_rfl))
  t3 := Try.underlying3
  a3 := Try.isAgg3
  z3 := Try.sizeOf3
  v3 := Try.zeroValue3
  t4 := Try.underlying4
  a4 := Try.isAgg4
  z4 := Try.sizeOf4
  v4 := Try.zeroValue4
  t9 := Try.underlying9
  a9 := Try.isAgg9
  z9 := Try.sizeOf9
  v9 := Try.zeroValue9 }
open Go.RowKit Go.Lib in
theorem Try.stringslite_HasPrefix (s p : ByteArray) (w : World) :
    Calls Try.prog 106 #[.string s, .string p] w fun e w' => e = .returned (.bool (Lib.hasPrefix s.data.toList p.data.toList)) ∧ w' = w := Any.stringslite_HasPrefix Try.lays206 s p w
def Try.lays99_ren : Go.Shelf.Ren := ⟨fun | 99 => 101 | 206 => 106 | n => n, fun | 9 => 9 | 4 => 4 | 3 => 3 | 20 => 20 | n => n, fun | n => n⟩
theorem Try.lays99 : Go.Proofs.Lays.n99 Try.prog Try.lays99_ren := {
  mixed := by kernel_rfl
  f99 := Try.func101.trans (congrArg some (by kernel_rfl))
  f206 := Try.func106.trans (congrArg some (by kernel_rfl))
  t3 := Try.underlying3
  a3 := Try.isAgg3
  z3 := Try.sizeOf3
  v3 := Try.zeroValue3
  t4 := Try.underlying4
  a4 := Try.isAgg4
  z4 := Try.sizeOf4
  v4 := Try.zeroValue4
  t9 := Try.underlying9
  a9 := Try.isAgg9
  z9 := Try.sizeOf9
  v9 := Try.zeroValue9 }
open Go.RowKit Go.Lib in
theorem Try.strings_HasPrefix (s p : ByteArray) (w : World) :
    Calls Try.prog 101 #[.string s, .string p] w fun e w' => e = .returned (.bool (Lib.hasPrefix s.data.toList p.data.toList)) ∧ w' = w := Any.strings_HasPrefix Try.lays99 s p w
end Go.Proofs

/- Part TkB. -/
namespace Go.Proofs.Ytoidjkkjnhnbhaa
open Go.RowKit
set_option linter.unusedVariables false

theorem enc_hiB {r : Int} (h : 128 ≤ r) : ∃ t : ByteArray, Utf8.encode r = t ∧ 2 ≤ t.size ∧ t.size ≤ 4 ∧ ∀ h : t.size - 1 < t.size, 128 ≤ (t[t.size - 1]'h).toNat := by
  refine ⟨_, rfl, ?_⟩
  unfold Utf8.encode
  obtain ⟨c, hc⟩ : ∃ c, (if Utf8.valid r = true then r.toNat else Utf8.runeError) = c := ⟨_, rfl⟩
  have h0 : 128 ≤ c := by
    rw [← hc]
    split
    · omega
    · decide
  rw [hc]
  have hb : ∀ n : Nat, n < 256 → (UInt8.ofNat n).toNat = n := fun n hn => by simp; omega
  show 2 ≤ (if c < 0x80 then _ else _ : ByteArray).size ∧ _
  simp only [if_neg (show ¬ c < 0x80 by omega)]
  by_cases h1 : c < 0x800
  · simp only [if_pos h1]
    refine ⟨(by decide : 2 ≤ 2), (by decide : 2 ≤ 4), fun _ => ?_⟩
    show 128 ≤ (UInt8.ofNat (128 + c % 64)).toNat
    rw [hb _ (by omega)]
    omega
  by_cases h2 : c < 0x10000
  · simp only [if_neg h1, if_pos h2]
    refine ⟨(by decide : 2 ≤ 3), (by decide : 3 ≤ 4), fun _ => ?_⟩
    show 128 ≤ (UInt8.ofNat (128 + c % 64)).toNat
    rw [hb _ (by omega)]
    omega
  · simp only [if_neg h1, if_neg h2]
    refine ⟨(by decide : 2 ≤ 4), (by decide : 4 ≤ 4), fun _ => ?_⟩
    show 128 ≤ (UInt8.ofNat (128 + c % 64)).toNat
    rw [hb _ (by omega)]
    omega

theorem conv_rune (w : World) (r : Int) : (convert 21 9 (.int .i32 r)).run Try.prog w = .ok (.string (Utf8.encode r)) w := by kernel_rfl
theorem valid_ok {r : Int} (h : okR r) : Lib.validRune r = true := by
  unfold okR at h
  simp [Lib.validRune]
  omega

theorem index_low : ∀ {l : List UInt8} {c : UInt8}, (∀ x ∈ l, x.toNat < 128) → 128 ≤ c.toNat → Lib.indexByte l c = -1
  | [], c, _, _ => rfl
  | b :: l, c, h, hc => by
    have ih := index_low (l := l) (c := c) (fun x hx => h x (by simp [hx])) hc
    have hb := h b (by simp)
    have hne : (b == c) = false := by
      rw [beq_eq_false_iff_ne]
      intro e
      rw [e] at hb
      omega
    show (if (b == c) = true then (0 : Int) else if (Lib.indexByte l c == -1) = true then -1 else Lib.indexByte l c + 1) = -1
    rw [hne, ih]
    rfl

/-- Is a character one of a text's bytes? -/
def inZ (l : List UInt8) (r : Int) : Bool := decide (r < 128) && decide (0 ≤ Lib.indexByte l r.toNat.toUInt8)

end Go.Proofs.Ytoidjkkjnhnbhaa
