/- Parts of the proof, in build order: NamR TxtR TxtS TreeL Laid Lw5C TkPM TkA. -/
import Derived.Test.YtialfafjoemppaaK06
import Derived.Test.YtialfafjoemppaaK01
import Derived.Test.YtialfafjoemppaaK02
import Derived.Test.YtialfafjoemppaaK03
import Derived.BigQuiet
import Derived.Lib.IndexMore
import Derived.Deep.QuietTactic

/- Part NamR. -/
namespace Go.Proofs.Ytialfafjoemppaa
open Go.RowKit
set_option linter.unusedVariables false

theorem eq_two (a b : ByteArray) : (a.toList == b.toList) = decide (a.data.toList = b.data.toList) := by
  rw [Lib.toList_data, Lib.toList_data]
  by_cases h : a.data.toList = b.data.toList
  · rw [h]; simp
  · rw [decide_eq_false h, beq_eq_false_iff_ne]
    exact h

set_option maxHeartbeats 1000000 in
theorem isR_any (s : ByteArray) (w : World) (hm : s.size ≤ 100000) :
    Calls Try.prog 30 #[.string s] w fun e w' => e = .returned (.bool (isB s.data.toList)) ∧ Below w.heap.size w w' := by
  have kb := fun (w : World) (s : ByteArray) => run_bytes_of_string (P := Try.prog) w 9 36 5 s Try.underlying9 Try.underlying36 Try.underlying5
  obtain ⟨l, hl⟩ : ∃ l, s.data.toList = l := ⟨_, rfl⟩
  have hlz : s.size = l.length := by rw [← hl]; simp
  have hrl := right_len l
  obtain ⟨r, hr⟩ : ∃ r, right l = r := ⟨_, rfl⟩
  obtain ⟨t, ht, htl, htz⟩ := str_of r
  obtain ⟨q, hq⟩ : ∃ q, isB l = q := ⟨_, rfl⟩
  have he : (t.toList == s.toList) = q := by rw [eq_two, htl, hl, ← hq, isB_iff, hr]
  rw [hl, hq]
  have HL := Lib.hid hl
  have HZ := Lib.hid hlz
  have HR := Lib.hid hr
  have HT := Lib.hid ht
  clear hl hr ht htl hq htz hlz
  go_enter Try.func30, Try.ntmps30
  go_wp2_with fail
  obtain ⟨w2, hw2, sits2, hb2⟩ := sits_conv (w := w) HL.out
  rw [hw2]
  have hcap := grownCap_ge w s.size 0 5
  rw [HZ.out] at hcap ⊢
  clear hw2
  refine (rightR_any _ _ l w2 sits2 hcap (by have := HZ.out; omega)).mono ?_
  rw [HR.out, HT.out]
  rintro e w3 ⟨rfl, hb3⟩
  have hB3 := below_after hb2 hb3
  clear hb2 hb3 sits2 hcap
  cases q with
  | true =>
    go_wp2_with fail
    go_ret
    exact ⟨rfl, hB3⟩
  | false =>
    go_wp2_with fail
    go_ret
    exact ⟨rfl, hB3⟩

/-- The first 30 bytes. -/
def few3S (s : ByteArray) : ByteArray := if 30 < s.size then s.extract 0 30 else s
theorem few3S_size (s : ByteArray) : (few3S s).size ≤ 30 := by
  unfold few3S
  split
  · rw [ByteArray.size_extract]; omega
  · omega

set_option maxHeartbeats 400000 in
theorem few3_any (s : ByteArray) (w : World) (hm : s.size ≤ maxLen) :
    Calls Try.prog 58 #[.string s] w fun e w' => e = .returned (.string (few3S s)) ∧ w = w' := by
  unfold maxLen at hm
  by_cases h : 30 < s.size
  · have hf := Lib.hid (show few3S s = s.extract 0 30 by unfold few3S; rw [if_pos h])
    go_enter Try.func58, Try.ntmps58
    go_wp2
    go_ret
    exact ⟨by rw [hf.out]; rfl, rfl⟩
  · have hf := Lib.hid (show few3S s = s by unfold few3S; rw [if_neg h])
    go_enter Try.func58, Try.ntmps58
    go_wp2
    go_ret
    exact ⟨by rw [hf.out]; rfl, rfl⟩

set_option maxHeartbeats 400000 in
theorem small3_any (c : UInt8) (w : World) :
    Calls Try.prog 29 #[.int .u8 c.toNat] w fun e w' => e = .returned (.bool (smC c)) ∧ w = w' := by
  by_cases h1 : 97 ≤ c.toNat
  · by_cases h2 : c.toNat ≤ 122
    · have hs := Lib.hid (show smC c = true by unfold smC; simp [h1, h2])
      have hd : decide ((c.toNat : Int) ≤ 122) = true := by simp; omega
      go_enter Try.func29, Try.ntmps29
      go_wp2
      go_ret
      exact ⟨by rw [hs.out]; rfl, rfl⟩
    · have hs := Lib.hid (show smC c = false by unfold smC; simp [h1]; omega)
      have hd : decide ((c.toNat : Int) ≤ 122) = false := by simp; omega
      go_enter Try.func29, Try.ntmps29
      go_wp2
      go_ret
      exact ⟨by rw [hs.out]; rfl, rfl⟩
  · have hs := Lib.hid (show smC c = false by unfold smC; simp; omega)
    go_enter Try.func29, Try.ntmps29
    go_wp2
    go_ret
    exact ⟨by rw [hs.out]; rfl, rfl⟩

theorem eqs (s : ByteArray) (l : List UInt8) : (s.toList == l) = decide (s.data.toList = l) := by
  rw [Lib.toList_data]
  by_cases h : s.data.toList = l
  · rw [h]; simp
  · rw [decide_eq_false h, beq_eq_false_iff_ne]
    exact h

set_option maxHeartbeats 400000 in
theorem rawR_any (s : ByteArray) (w : World) :
    Calls Try.prog 8 #[.string s] w fun e w' => e = .returned (.bool (rawB s.data.toList)) ∧ w = w' := by
  have h1 := eqs s [115, 99, 114, 105, 112, 116]
  have h2 := eqs s [115, 116, 121, 108, 101]
  obtain ⟨q1, e1⟩ : ∃ q, decide (s.data.toList = [115, 99, 114, 105, 112, 116]) = q := ⟨_, rfl⟩
  obtain ⟨q2, e2⟩ : ∃ q, decide (s.data.toList = [115, 116, 121, 108, 101]) = q := ⟨_, rfl⟩
  have HF := Lib.hid (show rawB s.data.toList = (q1 || q2) by unfold rawB; rw [e1, e2])
  rw [e1] at h1
  rw [e2] at h2
  clear e1 e2
  cases q1 <;> cases q2
  all_goals
    go_enter Try.func8, Try.ntmps8
    go_wp2
    go_ret
    exact ⟨by rw [HF.out]; rfl, rfl⟩

set_option maxHeartbeats 1000000 in
theorem voidR_any (s : ByteArray) (w : World) :
    Calls Try.prog 9 #[.string s] w fun e w' => e = .returned (.bool (voidB s.data.toList)) ∧ w = w' := by
  have h1 := eqs s [98, 114]
  have h2 := eqs s [104, 114]
  have h3 := eqs s [105, 109, 103]
  have h4 := eqs s [105, 110, 112, 117, 116]
  have h5 := eqs s [119, 98, 114]
  obtain ⟨q1, e1⟩ : ∃ q, decide (s.data.toList = [98, 114]) = q := ⟨_, rfl⟩
  obtain ⟨q2, e2⟩ : ∃ q, decide (s.data.toList = [104, 114]) = q := ⟨_, rfl⟩
  obtain ⟨q3, e3⟩ : ∃ q, decide (s.data.toList = [105, 109, 103]) = q := ⟨_, rfl⟩
  obtain ⟨q4, e4⟩ : ∃ q, decide (s.data.toList = [105, 110, 112, 117, 116]) = q := ⟨_, rfl⟩
  obtain ⟨q5, e5⟩ : ∃ q, decide (s.data.toList = [119, 98, 114]) = q := ⟨_, rfl⟩
  have HF := Lib.hid (show voidB s.data.toList = (q1 || q2 || q3 || q4 || q5) by unfold voidB; rw [e1, e2, e3, e4, e5])
  rw [e1] at h1
  rw [e2] at h2
  rw [e3] at h3
  rw [e4] at h4
  rw [e5] at h5
  clear e1 e2 e3 e4 e5
  cases q1
  case' false => cases q2
  case' false.false => cases q3
  case' false.false.false => cases q4
  case' false.false.false.false => cases q5
  all_goals
    go_enter Try.func9, Try.ntmps9
    go_wp2
    go_ret
    exact ⟨by rw [HF.out]; first | rfl | (simp only [Bool.true_or, Bool.false_or]; rfl), rfl⟩

end Go.Proofs.Ytialfafjoemppaa

/- Part TxtR. -/
namespace Go.Proofs.Ytialfafjoemppaa
open Go.RowKit
set_option linter.unusedVariables false

theorem cat_list (a b : ByteArray) : (a ++ b).data.toList = a.data.toList ++ b.data.toList := by simp


structure OpAt (w wr : World) (n : Nd) (k : Nat) (o : ByteArray) : Prop where
  le : k ≤ n.attrs.length
  is : o.data.toList = 60 :: (n.name.data.toList ++ (n.attrs.take k).flatMap attT)
  bel : Below w.heap.size w wr
def OpRel (w : World) (n : Nd) (x y : Value) (wr : World) : Prop := ∃ (k : Nat) (o : ByteArray), x = .string o ∧ y = .int .i64 k ∧ OpAt w wr n k o

theorem atts_take_len (l : List (ByteArray × ByteArray)) (k : Nat) : ((l.take k).flatMap attT).length ≤ 6 * szA l := by
  have h1 := atts_len (l.take k)
  have h2 : szA l = szA (l.take k) + szA (l.drop k) := by rw [← szA_append, List.take_append_drop]
  omega

set_option maxHeartbeats 2000000 in
set_option maxRecDepth 100000 in
theorem openR4_any (S : Nat → Prop) (n : Nd) (va vk : Value) (w : World) (hat : AttrsAt S w n.attrs va) (hk : ∃ A c, vk = .slice A n.kids.length c) (hS : ∀ b, S b → b < w.heap.size) (hsz : szN n ≤ 140000) :
    Calls Try.prog 38 #[.agg #[.int .i64 n.kind, .string n.name, va, .string n.text, vk]] w fun e w' =>
      ∃ s : ByteArray, e = .returned (.string s) ∧ s.data.toList = openE n ∧ Below w.heap.size w w' := by
  have hne := szN_eq n
  have hla := szA_len n.attrs
  have hns : n.name.size ≤ 140000 := by omega
  have hal : n.attrs.length ≤ 140000 := by omega
  have has : szA n.attrs ≤ 140000 := by omega
  obtain ⟨A2, c2, rfl⟩ := hk
  obtain ⟨A1, c1, rfl, _, _⟩ := id hat
  have HAT := Lib.hid hat
  have HS := Lib.hid hS
  clear hat hS hne hsz hla
  by_cases h1 : n.kind = 1
  · rw [show openE n = openT n from if_pos h1, h1]
    clear h1
    go_enter Try.func38, Try.ntmps38
    go_wp2_with fail
    obtain ⟨W1, hW1⟩ : ∃ W1, w.alloc (.cells #[.int .i64 1, .string n.name, .slice A1 n.attrs.length c1, .string n.text, .slice A2 n.kids.length c2] 28) = W1 := ⟨_, rfl⟩
    have d2 : W1.cell? ⟨w.heap.size, 2, none⟩ = some (.slice A1 n.attrs.length c1) := by rw [← hW1, World.cell?_alloc_mark]; rfl
    have hz1 : w.heap.size < W1.heap.size := by rw [← hW1]; simp
    have hbW : Below w.heap.size w W1 := by rw [← hW1]; exact below_new w _
    rw [hW1]
    have HBW := Lib.hid hbW
    clear hW1 hbW
    go_loopw [3, 4] (fun x y wr => OpRel W1 n x y wr) (fun _ y _ => n.attrs.length - (intOf y).toNat)
    case atStart => exact ⟨0, _, rfl, rfl, by omega, by rw [cat_list]; simp, Below.refl _ _⟩
    case round =>
      obtain ⟨k, o, rfl, rfl, HR⟩ := hrel
      obtain ⟨hk, his, hbr⟩ := HR
      have g2 : wr.cell? ⟨w.heap.size, 2, none⟩ = some (.slice A1 n.attrs.length c1) := (hbr.cell (p := ⟨w.heap.size, 2, none⟩) hz1).trans d2
      have hol : o.size ≤ 1000000 := by
        have h1 := atts_take_len n.attrs k
        have h2 : o.data.toList.length = o.size := by simp
        have h3 : n.name.data.toList.length = n.name.size := by simp
        rw [his, List.length_cons, List.length_append] at h2
        omega
      have HIS := Lib.hid his
      clear his
      by_cases hlt : k < n.attrs.length
      · obtain ⟨b, o2, c', hv, _, hSb, hcell⟩ := HAT.out.at_ (by omega)
        injection hv with hA _ hcc
        subst hA
        subst hcc
        obtain ⟨x, hx⟩ : ∃ x, n.attrs[k]? = some x := ⟨_, List.getElem?_eq_getElem hlt⟩
        have hb := HS.out b hSb
        have k0 : wr.cell? ⟨b, o2 + k * 2, none⟩ = some (.string x.1) := ((below_after HBW.out hbr).cell (p := ⟨b, o2 + k * 2, none⟩) hb).trans (hcell k x hx).1
        have k1 : wr.cell? ⟨b, o2 + k * 2 + 1, none⟩ = some (.string x.2) := ((below_after HBW.out hbr).cell (p := ⟨b, o2 + k * 2 + 1, none⟩) hb).trans (hcell k x hx).2
        have hxs := szA_at hx
        have hx1 : x.1.size ≤ 140000 := by omega
        have hx2 : x.2.size ≤ 140000 := by omega
        have hesc := fun w => escapeR_any x.2 true w hx2
        have hel := (escB_len true x.2.data.toList).2
        obtain ⟨u, hu, hul, huz⟩ := str_of (escB true x.2.data.toList)
        rw [hu] at hesc
        have hx2l : x.2.data.toList.length = x.2.size := by simp
        have huz2 : u.size ≤ 840000 := by omega
        have HESC := Lib.hid hesc
        have HUL := Lib.hid hul
        have HX := Lib.hid hx
        clear hcell hx hxs hesc hel hu hul huz hx2l
        go_wp2_with fail
        go_quiet ((go_at_call 37; exact quiet_here ((HESC.out _).mono fun _ _ ⟨he, hw⟩ => ⟨he, hw⟩)))
        go_wp2_with fail
        go_roundw
        case rel =>
          refine ⟨k + 1, _, rfl, by go_num, by omega, ?_, dN_below hbr _⟩
          rw [cat_list, cat_list, cat_list, cat_list, cat_list, HIS.out, HUL.out, List.take_add_one, HX.out, List.flatMap_append]
          simp [attT]
        case measure => simp [intOf]; omega
      · have hkl : k = n.attrs.length := by omega
        have HKL := Lib.hid hkl
        clear hkl
        go_wp2_with fail
        go_ret
        refine ⟨_, rfl, ?_, below_after HBW.out hbr⟩
        rw [cat_list, HIS.out, HKL.out, List.take_length]
        simp [openT]
  · rw [show openE n = [] from if_neg h1]
    have B1 : (n.kind != 1) = true := by simp [h1]
    go_enter Try.func38, Try.ntmps38
    go_wp2_with fail
    go_ret
    exact ⟨⟨#[]⟩, rfl, rfl, below_new w _⟩

/-- What is told of one's answer. -/
def OneEnd (w : World) (raw : Bool) (n : Nd) (e : Ending) (w' : World) : Prop := ∃ s : ByteArray, e = .returned (.string s) ∧ s.data.toList = txtN raw n ∧ Below w.heap.size w w'
def OneSaid (n : Nd) : Prop := ∀ (S : Nat → Prop) (raw : Bool) (va vk : Value) (w : World), AttrsAt S w n.attrs va → Tree S w n.kids vk → (∀ b, S b → b < w.heap.size) → szN n ≤ 140000 →
  Calls Try.prog 21 #[.agg #[.int .i64 n.kind, .string n.name, va, .string n.text, vk], .bool raw] w (OneEnd w raw n)

structure OnAt (W1 wr : World) (n : Nd) (rw : Bool) (k : Nat) (o : ByteArray) : Prop where
  le : k ≤ n.kids.length
  is : o.data.toList = openT n ++ txtL rw (n.kids.take k)
  bel : Below W1.heap.size W1 wr
def OnRel (W1 : World) (n : Nd) (rw : Bool) (x y : Value) (wr : World) : Prop := ∃ (k : Nat) (o : ByteArray), x = .string o ∧ y = .int .i64 k ∧ OnAt W1 wr n rw k o

theorem txt_take_len (rw : Bool) (l : List Nd) (k : Nat) : (txtL rw (l.take k)).length ≤ 7 * szL l := by
  have h1 := txt_len (l.take k) rw
  have h2 : szL l = szL (l.take k) + szL (l.drop k) := by rw [← szL_append, List.take_append_drop]
  omega

set_option maxHeartbeats 2000000 in
set_option maxRecDepth 100000 in
theorem one4_any (n : Nd) (ih : ∀ (k : Nat) (m : Nd), n.kids[k]? = some m → OneSaid m) : OneSaid n := by
  intro S raw va vk w hat hkt hS hsz
  have hne := szN_eq n
  have hns : n.name.size ≤ 140000 := by omega
  have hts : n.text.size ≤ 140000 := by omega
  have hks : szL n.kids ≤ 140000 := by omega
  have hkl := szL_len n.kids
  obtain ⟨A1, c1, rfl, hc1, _⟩ := id hat
  obtain ⟨A2, c2, rfl, hc2⟩ := hkt.shape
  have hopen := fun (W : World) (hb : Below w.heap.size w W) => openR4_any S n (.slice A1 n.attrs.length c1) (.slice A2 n.kids.length c2) W (hat.keep (Kept.belowB hb hS)) ⟨_, _, rfl⟩ (fun b h => Nat.lt_of_lt_of_le (hS b h) hb.size) hsz
  have HOPEN := Lib.hid hopen
  have HAT := Lib.hid hat
  have HKT := Lib.hid hkt
  have HS := Lib.hid hS
  have HIH := Lib.hid ih
  have HSZ := Lib.hid hsz
  clear hopen hat hkt hS ih hne hsz
  obtain ⟨res, hres⟩ : ∃ r, txtN raw n = r := ⟨_, rfl⟩
  have HRES := Lib.hid ((txtN_eq raw n).symm.trans hres)
  rw [show OneEnd w raw n = fun e w' => ∃ s : ByteArray, e = .returned (.string s) ∧ s.data.toList = res ∧ Below w.heap.size w w' by rw [← hres]; rfl]
  clear hres
  have HB1 := Lib.hid (below_new w (.cells #[.int .i64 n.kind, .string n.name, .slice A1 n.attrs.length c1, .string n.text, .slice A2 n.kids.length c2] 28))
  by_cases h3 : n.kind = 3
  · have B3 : (n.kind == 3) = true := by simp [h3]
    have HF := HRES.out
    rw [if_pos h3] at HF
    have HF2 := Lib.hid HF
    clear h3 HF
    go_enter Try.func21, Try.ntmps21
    go_wp2_with fail
    go_ret
    refine ⟨_, rfl, ?_, HB1.out⟩
    rw [← HF2.out, cat_list, cat_list]
    simp
  have B3 : (n.kind == 3) = false := by simp [h3]
  by_cases h2 : n.kind = 2
  · have B2 : (n.kind == 2) = true := by simp [h2]
    have HF := HRES.out
    rw [if_neg h3, if_pos h2] at HF
    have HF2 := Lib.hid HF
    have hesc := fun w => escapeR_any n.text false w hts
    obtain ⟨u, hu, hul, _⟩ := str_of (escB false n.text.data.toList)
    rw [hu] at hesc
    have HESC := Lib.hid hesc
    have HUL := Lib.hid hul
    clear h3 h2 HF hesc hu hul
    cases raw with
    | true =>
      go_enter Try.func21, Try.ntmps21
      go_wp2_with fail
      go_ret
      exact ⟨_, rfl, HF2.out, HB1.out⟩
    | false =>
      go_enter Try.func21, Try.ntmps21
      go_wp2_with fail
      refine (HESC.out _).mono ?_
      rintro e w1 ⟨rfl, rfl⟩
      go_wp2_with fail
      go_ret
      exact ⟨_, rfl, HUL.out.trans HF2.out, HB1.out⟩
  have B2 : (n.kind == 2) = false := by simp [h2]
  by_cases h1 : n.kind = 1
  · have B1 : (n.kind != 1) = false := by simp [h1]
    have HF := HRES.out
    rw [if_neg h3, if_neg h2, if_pos h1] at HF
    have HK1 := Lib.hid h1
    have hv := fun w => voidR_any n.name w
    have hr := fun w => rawR_any n.name w
    obtain ⟨v, hvv⟩ : ∃ v, voidB n.name.data.toList = v := ⟨_, rfl⟩
    obtain ⟨r, hrr⟩ : ∃ r, rawB n.name.data.toList = r := ⟨_, rfl⟩
    rw [hvv] at hv HF
    rw [hrr] at hr HF
    have HV := Lib.hid hv
    have HR := Lib.hid hr
    have HF2 := Lib.hid HF
    clear h3 h2 h1 HF hv hr hvv hrr
    go_enter Try.func21, Try.ntmps21
    go_wp2_with fail
    refine (HV.out _).mono ?_
    rintro e w1 ⟨rfl, rfl⟩
    cases v with
    | true =>
      go_wp2_with fail
      refine (HOPEN.out _ HB1.out).mono ?_
      rintro e w2 ⟨s, rfl, hs, hb2⟩
      have hB2 := below_after HB1.out hb2
      go_wp2_with fail
      go_ret
      exact ⟨s, rfl, by rw [hs, show openE n = openT n from if_pos HK1.out]; simpa using HF2.out, hB2⟩
    | false =>
      go_wp2_with fail
      refine (HR.out _).mono ?_
      rintro e w1 ⟨rfl, rfl⟩
      go_wp2_with fail
      refine (HOPEN.out _ HB1.out).mono ?_
      rintro e w2 ⟨s, rfl, hs, hb2⟩
      have hz1 : w.heap.size < (w.alloc (.cells #[.int .i64 n.kind, .string n.name, .slice A1 n.attrs.length c1, .string n.text, .slice A2 n.kids.length c2] 28)).heap.size := by simp
      have d1 : w2.cell? ⟨w.heap.size, 1, none⟩ = some (.string n.name) := (hb2.cell (p := ⟨w.heap.size, 1, none⟩) hz1).trans (by rw [World.cell?_alloc_mark]; rfl)
      have d4 : w2.cell? ⟨w.heap.size, 4, none⟩ = some (.slice A2 n.kids.length c2) := (hb2.cell (p := ⟨w.heap.size, 4, none⟩) hz1).trans (by rw [World.cell?_alloc_mark]; rfl)
      have hz2 : w.heap.size < w2.heap.size := Nat.lt_of_lt_of_le hz1 hb2.size
      have HB2 := Lib.hid (below_after HB1.out hb2)
      have HSS := Lib.hid (hs.trans (if_pos HK1.out))
      have hsl : s.size ≤ 1000000 := by
        have h5 := openT_len n
        have h6 : s.data.toList.length = s.size := by simp
        have h7 := szN_eq n
        rw [HSS.out] at h6
        have := HSZ.out
        omega
      clear hs hb2 hz1
      go_wp2_with fail
      go_loopw [7, 8] (fun x y wr => OnRel w2 n r x y wr) (fun _ y _ => n.kids.length - (intOf y).toNat)
      case atStart => exact ⟨0, s, rfl, rfl, by omega, by rw [HSS.out]; simp [txtL_nil], Below.refl _ _⟩
      case round =>
        obtain ⟨k, o, rfl, rfl, HRL⟩ := hrel
        obtain ⟨hk, his, hbr⟩ := HRL
        have e1 : wr.cell? ⟨w.heap.size, 1, none⟩ = some (.string n.name) := (hbr.cell (p := ⟨w.heap.size, 1, none⟩) hz2).trans d1
        have e4 : wr.cell? ⟨w.heap.size, 4, none⟩ = some (.slice A2 n.kids.length c2) := (hbr.cell (p := ⟨w.heap.size, 4, none⟩) hz2).trans d4
        have hbw := below_after HB2.out hbr
        have hol : o.size ≤ 2000000 := by
          have h5 := openT_len n
          have h6 : o.data.toList.length = o.size := by simp
          have h7 := szN_eq n
          have h8 := txt_take_len r n.kids k
          rw [his, List.length_append] at h6
          have := HSZ.out
          omega
        have HIS := Lib.hid his
        clear his
        by_cases hlt : k < n.kids.length
        · obtain ⟨b, o2, c', hv, _, hSb, hcell⟩ := HKT.out.open_ (by omega)
          injection hv with hA _ hcc
          subst hA
          subst hcc
          obtain ⟨m, hm⟩ : ∃ m, n.kids[k]? = some m := ⟨_, List.getElem?_eq_getElem hlt⟩
          obtain ⟨ma, mk, hmt⟩ := hcell k m hm
          have hb := HS.out b hSb
          obtain ⟨A3, c3, rfl, _, _⟩ := id hmt.at_
          obtain ⟨A4, c4, rfl, _⟩ := hmt.kids.shape
          have q0 : wr.cell? ⟨b, o2 + k * 5, none⟩ = some (.int .i64 m.kind) := (hbw.cell (p := ⟨b, o2 + k * 5, none⟩) hb).trans hmt.c0
          have q1 : wr.cell? ⟨b, o2 + k * 5 + 1, none⟩ = some (.string m.name) := (hbw.cell (p := ⟨b, o2 + k * 5 + 1, none⟩) hb).trans hmt.c1
          have q2 : wr.cell? ⟨b, o2 + k * 5 + 2, none⟩ = some (.slice A3 m.attrs.length c3) := (hbw.cell (p := ⟨b, o2 + k * 5 + 2, none⟩) hb).trans hmt.c2
          have q3 : wr.cell? ⟨b, o2 + k * 5 + 3, none⟩ = some (.string m.text) := (hbw.cell (p := ⟨b, o2 + k * 5 + 3, none⟩) hb).trans hmt.c3
          have q4 : wr.cell? ⟨b, o2 + k * 5 + 4, none⟩ = some (.slice A4 m.kids.length c4) := (hbw.cell (p := ⟨b, o2 + k * 5 + 4, none⟩) hb).trans hmt.c4
          have hsm : szN m ≤ 140000 := by have := szL_at hm; omega
          have HON := Lib.hid (HIH.out k m hm S r (.slice A3 m.attrs.length c3) (.slice A4 m.kids.length c4) wr (hmt.at_.keep (Kept.belowB hbw HS.out)) (hmt.kids.keep (Kept.belowB hbw HS.out)) (fun b h => Nat.lt_of_lt_of_le (HS.out b h) hbw.size) hsm)
          have HM := Lib.hid hm
          have hml : (txtN r m).length ≤ 980000 := by
            have h5 := txt_len [m] r
            rw [txtL_cons, txtL_nil, List.append_nil, szL_cons, szL_nil] at h5
            omega
          clear hcell hm hmt
          go_wp2_with fail
          refine HON.out.mono ?_
          rintro e w3 ⟨u, rfl, hu, hb3⟩
          have hul : u.size ≤ 980000 := by
            have : u.data.toList.length = u.size := by simp
            rw [hu] at this
            omega
          have HU := Lib.hid hu
          have hB3 := below_after hbr hb3
          clear hu hml
          go_wp2_with fail
          go_roundw
          case rel =>
            refine ⟨k + 1, _, rfl, by go_num, by omega, ?_, hB3⟩
            rw [cat_list, HIS.out, HU.out, txtL_take HM.out, List.append_assoc]
          case measure => simp [intOf]; omega
        · have hkk : k = n.kids.length := by omega
          have HKK := Lib.hid hkk
          clear hkk
          go_wp2_with fail
          go_ret
          refine ⟨_, rfl, ?_, hbw⟩
          have hf := HF2.out
          rw [if_neg (by decide)] at hf
          rw [← hf, cat_list, cat_list, cat_list, HIS.out, HKK.out, List.take_length]
          simp [closeT]
  · have B1 : (n.kind != 1) = true := by simp [h1]
    have HF := HRES.out
    rw [if_neg h3, if_neg h2, if_neg h1] at HF
    have HF2 := Lib.hid HF
    clear h3 h2 h1 HF
    go_enter Try.func21, Try.ntmps21
    go_wp2_with fail
    go_ret
    exact ⟨⟨#[]⟩, rfl, HF2.out, HB1.out⟩

end Go.Proofs.Ytialfafjoemppaa

/- Part TxtS. -/
namespace Go.Proofs.Ytialfafjoemppaa
open Go.RowKit
set_option linter.unusedVariables false

theorem one4_all (n : Nd) : OneSaid n := by
  have key : ∀ l : List Nd, ∀ (k : Nat) (m : Nd), l[k]? = some m → OneSaid m := by
    intro l
    induction l using nd_ind with
    | h l ih =>
      intro k m hm
      exact one4_any m (ih k m hm)
  exact key [n] 0 n rfl

structure TtAt (w wr : World) (l : List Nd) (k : Nat) (o : ByteArray) : Prop where
  le : k ≤ l.length
  is : o.data.toList = txtL false (l.take k)
  bel : Below w.heap.size w wr
def TtRel (w : World) (l : List Nd) (x y : Value) (wr : World) : Prop := ∃ (k : Nat) (o : ByteArray), x = .string o ∧ y = .int .i64 k ∧ TtAt w wr l k o

set_option maxHeartbeats 2000000 in
set_option maxRecDepth 100000 in
theorem textR4_any (S : Nat → Prop) (l : List Nd) (v : Value) (w : World) (hT : Tree S w l v) (hS : ∀ b, S b → b < w.heap.size) (hsz : szL l ≤ 140000) :
    Calls Try.prog 10 #[v] w fun e w' => ∃ s : ByteArray, e = .returned (.string s) ∧ s.data.toList = txtL false l ∧ Below w.heap.size w w' := by
  have hlen := szL_len l
  obtain ⟨A, c, rfl, hc⟩ := hT.shape
  have HT := Lib.hid hT
  clear hT
  go_enter Try.func10, Try.ntmps10
  go_wp2_with fail
  go_loopw [3, 4] (fun x y wr => TtRel w l x y wr) (fun _ y _ => l.length - (intOf y).toNat)
  case atStart => exact ⟨0, ⟨#[]⟩, rfl, rfl, by omega, by simp [txtL_nil], Below.refl _ _⟩
  case round =>
    obtain ⟨k, o, rfl, rfl, HR⟩ := hrel
    obtain ⟨hk, his, hbr⟩ := HR
    have hol : o.size ≤ 2000000 := by
      have h6 : o.data.toList.length = o.size := by simp
      have h8 := txt_take_len false l k
      rw [his] at h6
      omega
    have HIS := Lib.hid his
    clear his
    by_cases hlt : k < l.length
    · obtain ⟨b, o2, c', hv, _, hSb, hcell⟩ := HT.out.open_ (by omega)
      injection hv with hA _ hcc
      subst hA
      subst hcc
      obtain ⟨m, hm⟩ : ∃ m, l[k]? = some m := ⟨_, List.getElem?_eq_getElem hlt⟩
      obtain ⟨ma, mk, hmt⟩ := hcell k m hm
      have hb := hS b hSb
      obtain ⟨A3, c3, rfl, _, _⟩ := id hmt.at_
      obtain ⟨A4, c4, rfl, _⟩ := hmt.kids.shape
      have q0 : wr.cell? ⟨b, o2 + k * 5, none⟩ = some (.int .i64 m.kind) := (hbr.cell (p := ⟨b, o2 + k * 5, none⟩) hb).trans hmt.c0
      have q1 : wr.cell? ⟨b, o2 + k * 5 + 1, none⟩ = some (.string m.name) := (hbr.cell (p := ⟨b, o2 + k * 5 + 1, none⟩) hb).trans hmt.c1
      have q2 : wr.cell? ⟨b, o2 + k * 5 + 2, none⟩ = some (.slice A3 m.attrs.length c3) := (hbr.cell (p := ⟨b, o2 + k * 5 + 2, none⟩) hb).trans hmt.c2
      have q3 : wr.cell? ⟨b, o2 + k * 5 + 3, none⟩ = some (.string m.text) := (hbr.cell (p := ⟨b, o2 + k * 5 + 3, none⟩) hb).trans hmt.c3
      have q4 : wr.cell? ⟨b, o2 + k * 5 + 4, none⟩ = some (.slice A4 m.kids.length c4) := (hbr.cell (p := ⟨b, o2 + k * 5 + 4, none⟩) hb).trans hmt.c4
      have hsm : szN m ≤ 140000 := by have := szL_at hm; omega
      have HON := Lib.hid (one4_all m S false (.slice A3 m.attrs.length c3) (.slice A4 m.kids.length c4) wr (hmt.at_.keep (Kept.belowB hbr hS)) (hmt.kids.keep (Kept.belowB hbr hS)) (fun b h => Nat.lt_of_lt_of_le (hS b h) hbr.size) hsm)
      have HM := Lib.hid hm
      have hml : (txtN false m).length ≤ 980000 := by
        have h5 := txt_len [m] false
        rw [txtL_cons, txtL_nil, List.append_nil, szL_cons, szL_nil] at h5
        omega
      clear hcell hm hmt
      go_wp2_with fail
      refine HON.out.mono ?_
      rintro e w3 ⟨u, rfl, hu, hb3⟩
      have hul : u.size ≤ 980000 := by
        have : u.data.toList.length = u.size := by simp
        rw [hu] at this
        omega
      have HU := Lib.hid hu
      have hB3 := below_after hbr hb3
      clear hu hml
      go_wp2_with fail
      go_roundw
      case rel =>
        refine ⟨k + 1, _, rfl, by go_num, by omega, ?_, hB3⟩
        rw [cat_list, HIS.out, HU.out, txtL_take HM.out]
      case measure => simp [intOf]; omega
    · have hkk : k = l.length := by omega
      have HKK := Lib.hid hkk
      clear hkk
      go_wp2_with fail
      go_ret
      refine ⟨_, rfl, ?_, hbr⟩
      rw [HIS.out, HKK.out, List.take_length]

end Go.Proofs.Ytialfafjoemppaa

/- Part TreeL. -/
namespace Go.Proofs.Ytialfafjoemppaa
open Go.RowKit
set_option linter.unusedVariables false

/-- An element with one attribute and one text. -/
def elt (an av nm kt : ByteArray) : Nd := .mk 1 nm [(an, av)] ⟨#[]⟩ [.mk 2 ⟨#[]⟩ [] kt []]
def bareE (nm : ByteArray) : Nd := .mk 1 nm [] ⟨#[]⟩ []
def WL (w : World) (an av nm kt : ByteArray) : World :=
  ((w.alloc (.cells #[.string an, .string av] 40)).alloc (.cells #[.int .i64 2, .string ⟨#[]⟩, .slice none 0 0, .string kt, .slice none 0 0] 28)).alloc
    (.cells #[.int .i64 1, .string nm, .slice (some ⟨w.heap.size, 0, none⟩) 1 1, .string ⟨#[]⟩, .slice (some ⟨w.heap.size + 1, 0, none⟩) 1 1] 28)

theorem lit_cells {w : World} {b : Nat} {cs : Array Value} (h : ∀ j, j < cs.size → w.cell? ⟨b, j, none⟩ = cs[j]?) (hb : b < w.heap.size) (xs : List Value) (hx : cs.toList = xs) : Cells (· < w.heap.size) w (some ⟨b, 0, none⟩) xs := by
  intro _
  refine ⟨b, 0, rfl, hb, fun j u hu => ?_⟩
  rw [Nat.zero_add, h j (by rw [← hx] at hu; simpa using (List.getElem?_eq_some_iff.1 hu).1), ← hu, ← hx]
  simp

theorem tree_elt (w : World) (an av nm kt : ByteArray) : Tree (· < (WL w an av nm kt).heap.size) (WL w an av nm kt) [elt an av nm kt] (.slice (some ⟨w.heap.size + 2, 0, none⟩) 1 1) := by
  have hs : (WL w an av nm kt).heap.size = w.heap.size + 3 := by simp [WL]
  have ca : AttrsAt (· < (WL w an av nm kt).heap.size) (WL w an av nm kt) [(an, av)] (.slice (some ⟨w.heap.size, 0, none⟩) 1 1) :=
    ⟨_, 1, rfl, Nat.le_refl _, lit_cells (cs := #[.string an, .string av]) (fun j hj => by
      unfold WL
      rw [World.cell?_alloc_past _ _ _ (by simp; omega), World.cell?_alloc_past _ _ _ (by simp), World.cell?_alloc_mark]) (by omega) _ rfl⟩
  have ck : Tree (· < (WL w an av nm kt).heap.size) (WL w an av nm kt) [.mk 2 ⟨#[]⟩ [] kt []] (.slice (some ⟨w.heap.size + 1, 0, none⟩) 1 1) :=
    .mk [⟨.mk 2 ⟨#[]⟩ [] kt [], .slice none 0 0, .slice none 0 0⟩] _ _ 1 rfl (Nat.le_refl _) (lit_cells (cs := #[.int .i64 2, .string ⟨#[]⟩, .slice none 0 0, .string kt, .slice none 0 0]) (fun j hj => by
      unfold WL
      rw [World.cell?_alloc_past _ _ _ (by simp)]
      have := World.cell?_alloc_mark (w.alloc (.cells #[.string an, .string av] 40)) #[.int .i64 2, .string ⟨#[]⟩, .slice none 0 0, .string kt, .slice none 0 0] 28 (0, 0) j
      rwa [World.size_alloc] at this) (by omega) _ rfl)
      (fun r hr => by simp at hr; subst hr; exact AttrsAt.nil _ _) (fun r hr => by simp at hr; subst hr; exact Tree.nil _ _)
  exact .mk [⟨elt an av nm kt, .slice (some ⟨w.heap.size, 0, none⟩) 1 1, .slice (some ⟨w.heap.size + 1, 0, none⟩) 1 1⟩] _ _ 1 rfl (Nat.le_refl _) (lit_cells (cs := #[.int .i64 1, .string nm, .slice (some ⟨w.heap.size, 0, none⟩) 1 1, .string ⟨#[]⟩, .slice (some ⟨w.heap.size + 1, 0, none⟩) 1 1]) (fun j hj => by
      unfold WL
      have := World.cell?_alloc_mark ((w.alloc (.cells #[.string an, .string av] 40)).alloc (.cells #[.int .i64 2, .string ⟨#[]⟩, .slice none 0 0, .string kt, .slice none 0 0] 28)) #[.int .i64 1, .string nm, .slice (some ⟨w.heap.size, 0, none⟩) 1 1, .string ⟨#[]⟩, .slice (some ⟨w.heap.size + 1, 0, none⟩) 1 1] 28 (0, 0) j
      rwa [World.size_alloc, World.size_alloc] at this) (by omega) _ rfl)
      (fun r hr => by simp at hr; subst hr; exact ca) (fun r hr => by simp at hr; subst hr; exact ck)

theorem tree_bare (w : World) (nm : ByteArray) : Tree (· < w.heap.size + 1) (w.alloc (.cells #[.int .i64 1, .string nm, .slice none 0 0, .string ⟨#[]⟩, .slice none 0 0] 28)) [bareE nm] (.slice (some ⟨w.heap.size, 0, none⟩) 1 1) := by
  have h := lit_cells (w := w.alloc (.cells #[.int .i64 1, .string nm, .slice none 0 0, .string ⟨#[]⟩, .slice none 0 0] 28)) (b := w.heap.size) (cs := #[.int .i64 1, .string nm, .slice none 0 0, .string ⟨#[]⟩, .slice none 0 0]) (fun j _ => World.cell?_alloc_mark _ _ _ _ _) (by simp) _ rfl
  rw [World.size_alloc] at h
  exact .mk [⟨bareE nm, .slice none 0 0, .slice none 0 0⟩] _ _ 1 rfl (Nat.le_refl _) h (fun r hr => by simp at hr; subst hr; exact AttrsAt.nil _ _) (fun r hr => by simp at hr; subst hr; exact Tree.nil _ _)

theorem below_WL (w : World) (an av nm kt : ByteArray) : Below w.heap.size w (WL w an av nm kt) := (((Below.refl _ w).alloc (Nat.le_refl _) _).alloc (by simp) _).alloc (by simp; omega) _

end Go.Proofs.Ytialfafjoemppaa

/- Part Laid. -/
namespace Go.Proofs.Ytialfafjoemppaa
open Go.RowKit
set_option linter.unusedVariables false

theorem cells_here {S : Nat → Prop} {W : World} {k : Nat} {cs : Array Value} {t : TypeId} (h : W.heap[k]? = some (.cells cs t (0, 0))) (hS : S k) (xs : List Value) (hx : cs.toList = xs) : Cells S W (some ⟨k, 0, none⟩) xs := by
  intro _
  refine ⟨k, 0, rfl, hS, fun j u hu => ?_⟩
  rw [Nat.zero_add, cell_at h j, ← hu, ← hx]
  simp
theorem attr_here {S : Nat → Prop} {W : World} {k : Nat} {an av : ByteArray} {t : TypeId} (h : W.heap[k]? = some (.cells #[.string an, .string av] t (0, 0))) (hS : S k) : AttrsAt S W [(an, av)] (.slice (some ⟨k, 0, none⟩) 1 1) :=
  ⟨_, 1, rfl, Nat.le_refl _, cells_here h hS _ rfl⟩
theorem kid_here {S : Nat → Prop} {W : World} {k : Nat} {kt : ByteArray} {t : TypeId} (h : W.heap[k]? = some (.cells #[.int .i64 2, .string ⟨#[]⟩, .slice none 0 0, .string kt, .slice none 0 0] t (0, 0))) (hS : S k) :
    Tree S W [.mk 2 ⟨#[]⟩ [] kt []] (.slice (some ⟨k, 0, none⟩) 1 1) :=
  .mk [⟨.mk 2 ⟨#[]⟩ [] kt [], .slice none 0 0, .slice none 0 0⟩] _ _ 1 rfl (Nat.le_refl _) (cells_here h hS _ rfl) (fun r hr => by simp at hr; subst hr; exact AttrsAt.nil _ _) (fun r hr => by simp at hr; subst hr; exact Tree.nil _ _)

/-- All that one node more wants to know. -/
structure Laid (W : World) (base : Nat) (g : List Nd) (v : Value) (r : Rn) (ad : Addr) : Prop where
  own : OwnC W base base g v
  news : ∀ j u, (ncells1 r)[j]? = some u → W.cell? (ad.add j) = some u
  at_ : AttrsAt (Sub base W v) W r.n.attrs r.va
  kids : Tree (Sub base W v) W r.n.kids r.vk
  le : base ≤ W.heap.size

def eltR (an av nm kt : ByteArray) (α β : Nat) : Rn := ⟨elt an av nm kt, .slice (some ⟨α, 0, none⟩) 1 1, .slice (some ⟨β, 0, none⟩) 1 1⟩
def oAt (an av : ByteArray) : Obj := .cells #[.string an, .string av] 40
def oKid (kt : ByteArray) : Obj := .cells #[.int .i64 2, .string ⟨#[]⟩, .slice none 0 0, .string kt, .slice none 0 0] 28
def oElt (nm : ByteArray) (α β : Nat) : Obj := .cells #[.int .i64 1, .string nm, .slice (some ⟨α, 0, none⟩) 1 1, .string ⟨#[]⟩, .slice (some ⟨β, 0, none⟩) 1 1] 28

theorem laid_of {W0 W : World} {base : Nat} {g : List Nd} {v : Value} (h : OwnC W0 base base g v) (hb : base ≤ W0.heap.size) (hB : Below W0.heap.size W0 W) (an av nm kt : ByteArray) {α β γ : Nat}
    (hα : W.heap[α]? = some (.cells #[.string an, .string av] 40 (0, 0))) (hβ : W.heap[β]? = some (.cells #[.int .i64 2, .string ⟨#[]⟩, .slice none 0 0, .string kt, .slice none 0 0] 28 (0, 0)))
    (hγ : W.heap[γ]? = some (.cells #[.int .i64 1, .string nm, .slice (some ⟨α, 0, none⟩) 1 1, .string ⟨#[]⟩, .slice (some ⟨β, 0, none⟩) 1 1] 28 (0, 0)))
    (h1 : W0.heap.size ≤ α) (h2 : W0.heap.size ≤ β) : Laid W base g v (eltR an av nm kt α β) ⟨γ, 0, none⟩ := by
  have lt : ∀ {k : Nat} {o : Obj}, W.heap[k]? = some o → k < W.heap.size := fun h => (Array.getElem?_eq_some_iff.1 h).1
  have sub : ∀ k, W0.heap.size ≤ k → k < W.heap.size → Sub base W v k := by
    intro k h0 hk
    refine ⟨by omega, hk, fun e => ?_⟩
    have := (OwnT.lt h k e).2
    omega
  refine ⟨h.later hB, fun j u hu => ?_, attr_here hα (sub _ h1 (lt hα)), kid_here hβ (sub _ h2 (lt hβ)), Nat.le_trans hb hB.size⟩
  rw [add_zero_addr, cell_at hγ j]
  have hu' : [Value.int IntKind.i64 1, Value.string nm, Value.slice (some ⟨α, 0, none⟩) 1 1, Value.string ⟨#[]⟩, Value.slice (some ⟨β, 0, none⟩) 1 1][j]? = some u := hu
  simpa using hu'

theorem alloc_past {W : World} {o : Obj} {k : Nat} {x : Obj} (h : W.heap[k]? = some x) : (W.alloc o).heap[k]? = some x := by
  have hlt : k < W.heap.size := (Array.getElem?_eq_some_iff.1 h).1
  exact (Below.heap_alloc W o k hlt).trans h
theorem alloc_here' {W : World} {k : Nat} {cs : Array Value} {t : TypeId} (h : W.heap.size = k) : (W.alloc (.cells cs t)).heap[k]? = some (.cells cs t (0, 0)) := by subst h; exact box_here W cs t

theorem below1 (w : World) (a : Obj) : Below w.heap.size w (w.alloc a).drew := ((Below.refl _ w).alloc (Nat.le_refl _) _).drew
theorem below2 (w : World) (a b : Obj) : Below w.heap.size w ((w.alloc a).alloc b).drew := (((Below.refl _ w).alloc (Nat.le_refl _) _).alloc (by simp) _).drew
theorem below3 (w : World) (a b c : Obj) : Below w.heap.size w (((w.alloc a).alloc b).alloc c).drew := ((((Below.refl _ w).alloc (Nat.le_refl _) _).alloc (by simp) _).alloc (by simp; omega) _).drew

theorem laid1 {w : World} {base : Nat} {g : List Nd} {v : Value} (h : OwnC w base base g v) (hb : base ≤ w.heap.size) (an av nm kt : ByteArray) :
    Laid (((w.alloc (oAt an av)).alloc (oKid kt)).alloc (oElt nm w.heap.size (w.heap.size + 1))).drew base g v (eltR an av nm kt w.heap.size (w.heap.size + 1)) ⟨w.heap.size + 2, 0, none⟩ := by
  have h1 : (((w.alloc (oAt an av)).alloc (oKid kt)).alloc (oElt nm w.heap.size (w.heap.size + 1))).heap[w.heap.size]? = _ := alloc_past (alloc_past (alloc_here' rfl))
  have h2 : (((w.alloc (oAt an av)).alloc (oKid kt)).alloc (oElt nm w.heap.size (w.heap.size + 1))).heap[w.heap.size + 1]? = _ := alloc_past (alloc_here' (by simp))
  have h3 : (((w.alloc (oAt an av)).alloc (oKid kt)).alloc (oElt nm w.heap.size (w.heap.size + 1))).heap[w.heap.size + 2]? = _ := alloc_here' (by simp)
  exact laid_of h hb (below3 _ _ _ _) an av nm kt h1 h2 h3 (Nat.le_refl _) (by omega)
theorem laid2 {w : World} {base : Nat} {g : List Nd} {v : Value} (h : OwnC w base base g v) (hb : base ≤ w.heap.size) (an av nm kt : ByteArray) :
    Laid (((w.alloc (oKid kt)).alloc (oAt an av)).alloc (oElt nm (w.heap.size + 1) w.heap.size)).drew base g v (eltR an av nm kt (w.heap.size + 1) w.heap.size) ⟨w.heap.size + 2, 0, none⟩ := by
  have h1 : (((w.alloc (oKid kt)).alloc (oAt an av)).alloc (oElt nm (w.heap.size + 1) w.heap.size)).heap[w.heap.size + 1]? = _ := alloc_past (alloc_here' (by simp))
  have h2 : (((w.alloc (oKid kt)).alloc (oAt an av)).alloc (oElt nm (w.heap.size + 1) w.heap.size)).heap[w.heap.size]? = _ := alloc_past (alloc_past (alloc_here' rfl))
  have h3 : (((w.alloc (oKid kt)).alloc (oAt an av)).alloc (oElt nm (w.heap.size + 1) w.heap.size)).heap[w.heap.size + 2]? = _ := alloc_here' (by simp)
  exact laid_of h hb (below3 _ _ _ _) an av nm kt h1 h2 h3 (by omega) (Nat.le_refl _)

/-- A cell of what came in, behind the append. -/
theorem far_in {w wr W w4 : World} {g : List Nd} {v : Value} (h : OwnC wr w.heap.size w.heap.size g v) (hb : Below wr.heap.size wr W) (hg : W.grownBy w4 v.ownBlock) {p : Addr} (hp : p.block < w.heap.size) (hw : w.heap.size ≤ wr.heap.size) : w4.cell? p = wr.cell? p := by
  refine (World.cell?_of_block (hg.block p.block (Nat.lt_of_lt_of_le (Nat.lt_of_lt_of_le hp hw) hb.size) (fun e => ?_))).trans (hb.cell (Nat.lt_of_lt_of_le hp hw))
  have := (OwnT.lt h _ e.symm).1
  omega

end Go.Proofs.Ytialfafjoemppaa

/- Part Lw5C. -/
namespace Go.Proofs.Ytialfafjoemppaa
open Go.RowKit
set_option linter.unusedVariables false

theorem textN_txt (s : ByteArray) (raw : Bool) : txtL raw [Nd.mk 2 ⟨#[]⟩ [] s []] = if raw = true then s.data.toList else escB false s.data.toList := by
  rw [txtL_cons, txtL_nil, List.append_nil, txtN_eq]
  show (if (2 : Int) = 3 then _ else if (2 : Int) = 2 then _ else _) = _
  rw [if_neg (by decide), if_pos rfl]
  rfl
theorem textN_sz (s : ByteArray) : szL [Nd.mk 2 ⟨#[]⟩ [] s []] = 10 + s.size := by
  rw [szL_cons, szL_nil, szN_mk]
  show 10 + 0 + s.size + 0 + szL [] + 0 = _
  rw [szL_nil]
  omega

set_option maxHeartbeats 4000000 in
set_option maxRecDepth 100000 in
theorem tokenChars_end (HTS : ToksSaid) (A : Option Addr) (n c : Nat) (l : List UInt8) (w : World) (hs : Sits w w.heap.size A (Lib.byteCells l)) (hn : n = l.length) (hc : n ≤ c) (hm : n ≤ maxLen) (HGB : Glob w) :
    Calls Try.prog 4 #[.slice A n c] w fun e w' => e = .returned (.bool true) ∧ Below w.heap.size w w' := by
  have HF := Lib.hid (few5_any A n c l w hs hn hc hm)
  clear hs hn hc hm
  go_enter Try.func4, Try.ntmps4
  go_wp2_with fail
  refine HF.out.mono ?_
  rintro e w1 ⟨s, rfl, hsr, hsz, hb1⟩
  have hnb := below_new w1 (.cells #[.int .i64 2, .string ⟨#[]⟩, .slice none 0 0, .string s, .slice none 0 0] 28)
  have hbx := box_here w1 #[.int .i64 2, .string ⟨#[]⟩, .slice none 0 0, .string s, .slice none 0 0] 28
  have hT := kid_here (S := (· < w1.heap.size + 1)) hbx (by show w1.heap.size < w1.heap.size + 1; omega)
  have hTx := textR4_any (· < w1.heap.size + 1) [Nd.mk 2 ⟨#[]⟩ [] s []] _ _ hT (fun b hb => by simpa using hb) (by rw [textN_sz]; omega)
  rw [textN_txt s false, if_neg (by decide)] at hTx
  have HTX := Lib.hid hTx
  have hB1 := below_after hb1 hnb
  clear hT hTx hbx hnb
  go_wp2_with fail
  refine HTX.out.mono ?_
  rintro e w2 ⟨t, rfl, ht, hb2⟩
  have hB2 := below_after hB1 hb2
  have hel := (escB_len false s.data.toList).2
  have hsl : s.data.toList.length = s.size := by simp
  have htl : t.data.toList.length = t.size := by simp
  have H0 := Lib.hid (HTS t w2 (HGB.below hB2) (by rw [ht]; exact rt_esc hsr) (by rw [← htl, ht]; omega))
  have HT := Lib.hid ht
  clear ht hel hsl htl hb2 hB1 hb1
  go_wp2_with fail
  refine H0.out.mono ?_
  rintro e w3 ⟨v, rfl, hT, hb3⟩
  rw [HT.out, tok_alone] at hT
  have hB3 := below_after hB2 hb3
  have HL := Lib.hid (lives5_any HTS w3 (HGB.below hB3))
  clear hb3 hB2
  by_cases h0 : s.data.toList = []
  · have B0 : (s.toList == []) = true := by rw [eqs, decide_eq_true h0]
    have B1 : s.toList.isEmpty = true := by rw [Lib.toList_data, h0]; rfl
    rw [if_pos h0] at hT
    obtain ⟨A1, c1, rfl, _⟩ := hT.shape
    clear hT h0
    go_wp2_with fail
    refine HL.out.mono ?_
    rintro e w4 ⟨rfl, hb4⟩
    have hB4 := below_after hB3 hb4
    clear hb4
    go_wp2_with fail
    go_ret
    exact ⟨rfl, hB4⟩
  · have B0 : (s.toList == []) = false := by rw [eqs, decide_eq_false h0]
    have B1 : s.toList.isEmpty = false := by rw [Lib.toList_data]; cases hx : s.data.toList with | nil => exact absurd hx h0 | cons a b => rfl
    rw [if_neg h0] at hT
    obtain ⟨b, o, c1, rfl, hc1, hSb, hcell⟩ := hT.open_ (by simp)
    obtain ⟨va0, k0⟩ := hcell 0 _ rfl
    have c00 : w3.cell? ⟨b, o, none⟩ = some (.int .i64 3) := k0.c0
    have c03 : w3.cell? ⟨b, o + 3, none⟩ = some (.string (tB s.data.toList)) := k0.c3
    rw [tB_of] at c03
    clear hT h0 hcell k0
    go_wp2_with fail
    refine HL.out.mono ?_
    rintro e w4 ⟨rfl, hb4⟩
    have hB4 := below_after hB3 hb4
    clear hb4
    go_wp2_with fail
    go_ret
    exact ⟨rfl, hB4⟩

end Go.Proofs.Ytialfafjoemppaa

/- Part TkPM. -/
namespace Go.Proofs.Ytialfafjoemppaa
set_option linter.unusedVariables false

/-! ### characters and bytes -/
theorem dec_lo {l : List UInt8} (h : byt l 0 < 128) : dec l = (byt l 0, 1) := by unfold dec; rw [if_pos h]
theorem cont_hi {l : List UInt8} {k : Nat} (h : cont l k = true) : 128 ≤ byt l k := by
  unfold cont at h
  simp at h
  omega
theorem dec_hi {l : List UInt8} (h : ¬ byt l 0 < 128) : 128 ≤ (dec l).1 ∧ ∀ j, j < (dec l).2 → 128 ≤ byt l j := by
  have h0 : 128 ≤ byt l 0 := by omega
  have one : ∀ j, j < 1 → 128 ≤ byt l j := fun j hj => by
    obtain rfl : j = 0 := by omega
    exact h0
  unfold dec
  rw [if_neg h]
  split
  · rename_i h1
    have c1 := cont_hi h1.2
    split
    · refine ⟨by assumption, fun j hj => ?_⟩
      rcases (show j = 0 ∨ j = 1 by simp at hj; omega) with rfl | rfl
      · exact h0
      · exact c1
    · exact ⟨by decide, one⟩
  split
  · rename_i h1
    have c1 := cont_hi h1.2.1
    have c2 := cont_hi h1.2.2
    split
    · rename_i h2
      refine ⟨by simp; omega, fun j hj => ?_⟩
      rcases (show j = 0 ∨ j = 1 ∨ j = 2 by simp at hj; omega) with rfl | rfl | rfl
      · exact h0
      · exact c1
      · exact c2
    · exact ⟨by decide, one⟩
  split
  · rename_i h1
    have c1 := cont_hi h1.2.1
    have c2 := cont_hi h1.2.2.1
    have c3 := cont_hi h1.2.2.2
    split
    · rename_i h2
      refine ⟨by simp; omega, fun j hj => ?_⟩
      rcases (show j = 0 ∨ j = 1 ∨ j = 2 ∨ j = 3 by simp at hj; omega) with rfl | rfl | rfl | rfl
      · exact h0
      · exact c1
      · exact c2
      · exact c3
    · exact ⟨by decide, one⟩
  exact ⟨by decide, one⟩
theorem byt_drop {l : List UInt8} {p : Nat} (j : Nat) : byt (l.drop p) j = byt l (p + j) := by
  unfold byt
  rw [List.getD_eq_getElem?_getD, List.getD_eq_getElem?_getD, List.getElem?_drop]
theorem byt_get {l : List UInt8} {k : Nat} (h : k < l.length) : byt l k = l[k].toNat := by
  unfold byt
  rw [List.getD_eq_getElem?_getD, List.getElem?_eq_getElem h]
  rfl

/-- A character at place p: a byte of its own, or some that are 128 or more. -/
theorem char_at {l : List UInt8} {p : Nat} {r d : Nat} (hp : p < l.length) (hd : dec (l.drop p) = (r, d)) :
    1 ≤ d ∧ p + d ≤ l.length ∧ okR r ∧ ((r < 128 ∧ d = 1 ∧ l[p].toNat = r) ∨ (128 ≤ r ∧ ∀ j (h : j < l.length), p ≤ j → j < p + d → 128 ≤ l[j].toNat)) := by
  have hw := dec_width (l := l.drop p) (by rw [List.length_drop]; omega)
  have ho := dec_ok (l.drop p)
  rw [hd] at hw ho
  rw [List.length_drop] at hw
  simp only at hw ho
  refine ⟨hw.1, by omega, ho, ?_⟩
  by_cases h : byt (l.drop p) 0 < 128
  · have e := dec_lo h
    rw [hd] at e
    injection e with e1 e2
    subst e1
    rw [byt_drop, Nat.add_zero, byt_get hp] at h ⊢
    exact .inl ⟨h, e2, rfl⟩
  · have e := dec_hi h
    rw [hd] at e
    refine .inr ⟨e.1, fun j hj h1 h2 => ?_⟩
    have := e.2 (j - p) (by show j - p < d; omega)
    rw [byt_drop, show p + (j - p) = j by omega, byt_get hj] at this
    exact this

/-! ### as long as .. -/
theorem span_at {p : UInt8 → Bool} : ∀ (l : List UInt8) (k : Nat), k ≤ l.length → (∀ j (h : j < l.length), j < k → p l[j] = true) → (∀ (h : k < l.length), p l[k] = false) → l.takeWhile p = l.take k ∧ l.dropWhile p = l.drop k
  | [], k, hk, _, _ => by simp
  | c :: r, 0, _, _, h => by
    have := h (by simp)
    rw [List.getElem_cons_zero] at this
    rw [List.takeWhile_cons, List.dropWhile_cons, if_neg (by rw [this]; decide), if_neg (by rw [this]; decide)]
    exact ⟨rfl, rfl⟩
  | c :: r, k + 1, hk, hj, h => by
    have h0 := hj 0 (by simp) (by omega)
    rw [List.getElem_cons_zero] at h0
    have := span_at r k (by simpa using hk) (fun j hjl hjk => by have := hj (j + 1) (by simp; omega) (by omega); rwa [List.getElem_cons_succ] at this) (fun hk => by have := h (by simp; omega); rwa [List.getElem_cons_succ] at this)
    rw [List.takeWhile_cons, List.dropWhile_cons, if_pos h0, if_pos h0, this.1, this.2]
    exact ⟨rfl, rfl⟩
theorem charsB_at : ∀ (l : List UInt8) (k : Nat), k ≤ l.length → (∀ j, j < k → startsB (l.drop j) = false) → (k < l.length → startsB (l.drop k) = true) → charsB l = (l.take k, l.drop k)
  | [], k, _, _, _ => by simp [charsB]
  | c :: r, 0, _, _, h => by
    have : startsB (c :: r) = true := h (by simp)
    rw [charsB_cons, if_pos this]
    rfl
  | c :: r, k + 1, hk, hj, h => by
    have h0 : startsB (c :: r) = false := hj 0 (by omega)
    have := charsB_at r k (by simpa using hk) (fun j hjk => hj (j + 1) (by omega)) (fun hk => h (by simpa using hk))
    rw [charsB_cons, if_neg (by rw [h0]; decide), this]
    rfl
theorem cutEnd_k (nm : List UInt8) : ∀ (l : List UInt8) (k : Nat), k ≤ l.length → (∀ j, j < k → endAt nm (l.drop j) = false) → (k < l.length → endAt nm (l.drop k) = true) → cutEnd nm l = (l.take k, l.drop k)
  | [], k, _, _, _ => by simp [cutEnd]
  | c :: r, 0, _, _, h => by
    have : endAt nm (c :: r) = true := h (by simp)
    rw [cutEnd_cons, if_pos this]
    rfl
  | c :: r, k + 1, hk, hj, h => by
    have h0 : endAt nm (c :: r) = false := hj 0 (by omega)
    have := cutEnd_k nm r k (by simpa using hk) (fun j hjk => hj (j + 1) (by omega)) (fun hk => h (by simpa using hk))
    rw [cutEnd_cons, if_neg (by rw [h0]; decide), this]
    rfl
theorem starts_at {l : List UInt8} {j : Nat} (hj : j < l.length) (h : l[j].toNat ≠ 60) : startsB (l.drop j) = false := by
  rw [List.drop_eq_getElem_cons hj]
  cases l.drop (j + 1) with
  | nil => rfl
  | cons d r =>
    have : decide (l[j] = 60) = false := by
      rw [decide_eq_false_iff_not]
      intro e
      rw [e] at h
      exact h rfl
    simp only [startsB, this, Bool.false_and]
theorem lowB_60 {c : UInt8} (h : lowB c = 60) : c = 60 := by
  have := lowB_toNat c
  rw [h] at this
  apply UInt8.toNat_inj.1
  show c.toNat = 60
  have h60 : (60 : UInt8).toNat = 60 := rfl
  rw [h60] at this
  split at this <;> omega
theorem endAt_ne {nm l : List UInt8} {j : Nat} (hj : j < l.length) (h : l[j].toNat ≠ 60) : endAt nm (l.drop j) = false := by
  rw [List.drop_eq_getElem_cons hj]
  unfold endAt
  rw [Bool.and_eq_false_iff]
  refine .inl ?_
  rw [decide_eq_false_iff_not, show 2 + nm.length = (1 + nm.length) + 1 by omega, List.take_succ_cons, List.map_cons]
  intro e
  injection e with e1 e2
  have := lowB_60 e1
  rw [this] at h
  exact h rfl

/-! ### strings.Cut -/
theorem cut_cons (b : UInt8) (l sep : List UInt8) : Lib.cut (b :: l) sep = if sep.isPrefixOf (b :: l) = true then ([], (b :: l).drop sep.length, true) else (b :: (Lib.cut l sep).1, (Lib.cut l sep).2.1, (Lib.cut l sep).2.2) := by
  have e : Lib.index (b :: l) sep = if sep.isPrefixOf (b :: l) = true then 0 else if Lib.index l sep == -1 then -1 else Lib.index l sep + 1 := rfl
  have hge := Lib.index_ge l sep
  unfold Lib.cut
  rw [e]
  by_cases hp : sep.isPrefixOf (b :: l) = true
  · rw [if_pos hp, if_pos hp, if_pos (by omega)]
    simp
  · rw [if_neg hp, if_neg hp]
    by_cases hi : Lib.index l sep = -1
    · rw [hi]
      simp
    · have : (Lib.index l sep == -1) = false := by rw [beq_eq_false_iff_ne]; exact hi
      rw [this]
      have h0 : 0 ≤ Lib.index l sep := by omega
      obtain ⟨n, hn⟩ := Int.eq_ofNat_of_zero_le h0
      rw [hn]
      have h1 : ((n : Int) + 1).toNat = n + 1 := by omega
      rw [if_neg (show ¬ (false = true) by decide), if_pos (by omega), if_pos (by omega), h1, List.take_succ_cons, show n + 1 + sep.length = (n + sep.length) + 1 by omega, List.drop_succ_cons]
      simp
theorem cut_nil {sep : List UInt8} (h : sep ≠ []) : Lib.cut [] sep = ([], [], false) := by
  unfold Lib.cut Lib.index
  cases sep with
  | nil => exact absurd rfl h
  | cons a r => rfl
theorem cut_three : ∀ l : List UInt8, (Lib.cut l [45, 45, 62]).1 = (upTo3 l).1 ∧ (Lib.cut l [45, 45, 62]).2.1 = (upTo3 l).2
  | [] => by rw [cut_nil (by simp)]; exact ⟨rfl, rfl⟩
  | c :: r => by
    have ih := cut_three r
    rw [cut_cons, upTo3_cons]
    by_cases h : Lib.hasPrefix (c :: r) [45, 45, 62] = true
    · have h' : ([45, 45, 62] : List UInt8).isPrefixOf (c :: r) = true := h
      rw [if_pos h, if_pos h']
      exact ⟨rfl, rfl⟩
    · have h' : ¬ ([45, 45, 62] : List UInt8).isPrefixOf (c :: r) = true := h
      rw [if_neg h, if_neg h']
      exact ⟨by show c :: _ = c :: _; rw [ih.1], ih.2⟩
theorem cut_gt : ∀ l : List UInt8, (Lib.cut l [62]).1 = (upTo1 l).1 ∧ (Lib.cut l [62]).2.1 = (upTo1 l).2
  | [] => by rw [cut_nil (by simp)]; exact ⟨rfl, rfl⟩
  | c :: r => by
    have ih := cut_gt r
    have e : ([62] : List UInt8).isPrefixOf (c :: r) = (62 == c) := by
      show ((62 == c) && _) = _
      simp
    unfold upTo1 at ih ⊢
    rw [cut_cons, e, List.takeWhile_cons, List.dropWhile_cons]
    by_cases h : c = 62
    · subst h
      rw [if_pos (by rfl), if_neg (by decide), if_neg (by decide)]
      exact ⟨rfl, rfl⟩
    · have h1 : (62 == c) = false := by rw [beq_eq_false_iff_ne]; exact fun e => h e.symm
      have h2 : neC 62 c = true := by simp [neC, h]
      rw [h1, h2, if_neg (by decide), if_pos rfl, if_pos rfl]
      exact ⟨by show c :: _ = c :: _; rw [ih.1], ih.2⟩

end Go.Proofs.Ytialfafjoemppaa

/- Part TkA. -/
namespace Go.Proofs.Ytialfafjoemppaa
open Go.RowKit
set_option linter.unusedVariables false

/-- A letter; a character of a tag's name. -/
def letZ (r : Int) : Bool := (decide (65 ≤ r) && decide (r ≤ 90)) || (decide (97 ≤ r) && decide (r ≤ 122))
def tagZ (r : Int) : Bool := letZ r || (decide (48 ≤ r) && decide (r ≤ 57)) || (r == 45)
theorem letZ_byte (c : UInt8) : letZ (c.toNat : Int) = letC c := by
  unfold letZ letC
  have h1 : decide ((65 : Int) ≤ c.toNat) = decide (65 ≤ c.toNat) := by rw [decide_eq_decide]; omega
  have h2 : decide ((c.toNat : Int) ≤ 90) = decide (c.toNat ≤ 90) := by rw [decide_eq_decide]; omega
  have h3 : decide ((97 : Int) ≤ c.toNat) = decide (97 ≤ c.toNat) := by rw [decide_eq_decide]; omega
  have h4 : decide ((c.toNat : Int) ≤ 122) = decide (c.toNat ≤ 122) := by rw [decide_eq_decide]; omega
  rw [h1, h2, h3, h4]
theorem tagZ_byte (c : UInt8) : tagZ (c.toNat : Int) = tagC c := by
  unfold tagZ tagC
  have h1 : decide ((48 : Int) ≤ c.toNat) = decide (48 ≤ c.toNat) := by rw [decide_eq_decide]; omega
  have h2 : decide ((c.toNat : Int) ≤ 57) = decide (c.toNat ≤ 57) := by rw [decide_eq_decide]; omega
  have h3 : ((c.toNat : Int) == 45) = decide (c.toNat = 45) := by rw [Bool.eq_iff_iff, beq_iff_eq, decide_eq_true_eq]; omega
  rw [letZ_byte, h1, h2, h3]
theorem tagZ_hi {r : Int} (h : 128 ≤ r) : tagZ r = false := by
  unfold tagZ letZ
  simp
  omega
theorem tagC_hi {c : UInt8} (h : 128 ≤ c.toNat) : tagC c = false := by rw [← tagZ_byte]; exact tagZ_hi (by omega)

set_option maxHeartbeats 400000 in
theorem letter_any (r : Int) (w : World) : Calls Try.prog 40 #[.int .i32 r] w fun e w' => e = .returned (.bool (letZ r)) ∧ w = w' := by
  by_cases h1 : 65 ≤ r
  case' pos => by_cases h2 : r ≤ 90
  case' neg => have h2 : True := trivial
  all_goals
    by_cases h3 : 97 ≤ r
    case' pos => by_cases h4 : r ≤ 122
  all_goals
    go_enter Try.func40, Try.ntmps40
    go_wp2
    go_ret
    exact ⟨by simp [letZ, *] <;> omega, rfl⟩

set_option maxHeartbeats 400000 in
theorem named_any (r : Int) (w : World) : Calls Try.prog 60 #[.int .i32 r] w fun e w' => e = .returned (.bool (tagZ r)) ∧ w = w' := by
  have H := Lib.hid (letter_any r w)
  have HT := Lib.hid (show tagZ r = (letZ r || (decide (48 ≤ r) && decide (r ≤ 57)) || (r == 45)) from rfl)
  obtain ⟨q, hq⟩ : ∃ q, letZ r = q := ⟨_, rfl⟩
  rw [hq] at H HT
  rw [HT.out]
  clear hq HT
  cases q
  case' false =>
    by_cases h1 : 48 ≤ r
    case' pos => by_cases h2 : r ≤ 57
  all_goals
    go_enter Try.func60, Try.ntmps60
    go_wp2_with fail
    refine H.out.mono ?_
    rintro e w1 ⟨rfl, rfl⟩
    go_wp2_with fail
    go_ret
    exact ⟨by simp [*] <;> omega, rfl⟩

theorem starts_at0 {s : ByteArray} {l : List UInt8} (hl : s.data.toList = l) (k : Nat) (h : k < s.size) : l[k]? = some s[k] := by
  rw [← hl, List.getElem?_eq_getElem (by simpa using h)]
  rfl

set_option maxHeartbeats 1000000 in
theorem starts_any (s : ByteArray) (w : World) (hm : s.size ≤ maxLen) : Calls Try.prog 39 #[.string s] w fun e w' => e = .returned (.bool (startsB s.data.toList)) ∧ w = w' := by
  obtain ⟨l, hl⟩ : ∃ l, s.data.toList = l := ⟨_, rfl⟩
  have hsz : s.size = l.length := by rw [← hl]; simp
  have hat := starts_at0 hl
  unfold maxLen at hm
  rw [hl]
  rcases l with _ | ⟨a, _ | ⟨c, r⟩⟩
  · have hs2 : s.size < 2 := by rw [hsz]; simp
    have HX := Lib.hid (show startsB [] = false from rfl)
    clear hsz hat hl
    go_enter Try.func39, Try.ntmps39
    go_wp2
    go_ret
    exact ⟨by rw [HX.out]; rfl, rfl⟩
  · have hs2 : s.size < 2 := by rw [hsz]; simp
    have HX := Lib.hid (show startsB [a] = false from rfl)
    clear hsz hat hl
    go_enter Try.func39, Try.ntmps39
    go_wp2
    go_ret
    exact ⟨by rw [HX.out]; rfl, rfl⟩
  · have hs2 : 2 ≤ s.size := by rw [hsz]; simp
    have g0 : (s[0]'(Nat.lt_of_lt_of_le (by decide) hs2)).toNat = a.toNat := by
      have e := hat 0 (by omega)
      injection e with e
      rw [e]
    have g1 : (s[1]'(Nat.lt_of_lt_of_le (by decide) hs2)).toNat = c.toNat := by
      have e := hat 1 (by omega)
      injection e with e
      rw [e]
    have HL := Lib.hid (letter_any (c.toNat : Int) w)
    rw [letZ_byte] at HL
    have HX := Lib.hid (show startsB (a :: c :: r) = (decide (a.toNat = 60) && (letC c || decide (c.toNat = 33) || decide (c.toNat = 63) || decide (c.toNat = 47))) by
      have e : ∀ (x y : UInt8), decide (x = y) = decide (x.toNat = y.toNat) := fun x y => by rw [decide_eq_decide, UInt8.toNat_inj]
      show (decide (a = 60) && (letC c || decide (c = 33) || decide (c = 63) || decide (c = 47))) = _
      rw [e, e, e, e]
      rfl)
    rw [HX.out]
    clear hsz hat hl HX
    obtain ⟨q, hq⟩ : ∃ q, letC c = q := ⟨_, rfl⟩
    rw [hq] at HL ⊢
    clear hq
    have hcb := c.toNat_lt
    have e1 : decide (a.toNat = 60) = ((a.toNat : Int) == 60) := by rw [Bool.eq_iff_iff, beq_iff_eq, decide_eq_true_eq]; omega
    have e2 : decide (c.toNat = 47) = ((c.toNat : Int) == 47) := by rw [Bool.eq_iff_iff, beq_iff_eq, decide_eq_true_eq]; omega
    have e3 : decide (c.toNat = 33) = ((c.toNat : Int) == 33) := by rw [Bool.eq_iff_iff, beq_iff_eq, decide_eq_true_eq]; omega
    have e4 : decide (c.toNat = 63) = ((c.toNat : Int) == 63) := by rw [Bool.eq_iff_iff, beq_iff_eq, decide_eq_true_eq]; omega
    rw [e1, e2, e3, e4]
    clear e1 e2 e3 e4
    have h0 : ((s[0]'(Nat.lt_of_lt_of_le (by decide) hs2)).toNat : Int) = a.toNat := by rw [g0]
    have h1 : ((s[1]'(Nat.lt_of_lt_of_le (by decide) hs2)).toNat : Int) = c.toNat := by rw [g1]
    have b1 : (0 : Int) ≤ c.toNat := by omega
    have b2 : (c.toNat : Int) < 256 := by omega
    clear hcb g0 g1
    generalize (a.toNat : Int) = x at *
    generalize (c.toNat : Int) = y at *
    cases B0 : (x == 60) with
    | false =>
      have B0' : (x != 60) = true := by simp [bne, B0]
      go_enter Try.func39, Try.ntmps39
      go_wp2
      go_ret
      exact ⟨rfl, rfl⟩
    | true =>
      have B0' : (x != 60) = false := by simp [bne, B0]
      cases B1 : (y == 47)
      case' false =>
        cases B2 : (y == 33)
        case' false => cases B3 : (y == 63)
      all_goals
        go_enter Try.func39, Try.ntmps39
        go_wp2_with (refine HL.out.mono ?_; rintro e w1 ⟨rfl, rfl⟩)
        go_ret
        exact ⟨by simp <;> rfl, rfl⟩

end Go.Proofs.Ytialfafjoemppaa
