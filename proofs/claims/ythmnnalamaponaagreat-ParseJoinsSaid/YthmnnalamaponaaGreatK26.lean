/- Parts of the proof, in build order: BdY BdU BdZ. -/
import Derived.Test.YthmnnalamaponaaGreatK25
import Derived.Test.YthmnnalamaponaaGreatK22
import Derived.Test.YthmnnalamaponaaGreatK04
import Derived.BigQuiet
import Derived.RegionTactic
import Derived.Deep.RegionWith
import Derived.Deep.DeepCutAuto

/- Part BdY. -/
namespace Go.Proofs.YthmnnalamaponaaGreat
open Go.RowKit
set_option linter.unusedVariables false

def beginB (b : Bst) (nm : ByteArray) (attrs : List (ByteArray × ByteArray)) : Bst :=
  let s := popN (b.fs.takeWhile (shutBy nm.data.toList)).length b
  if voidB nm.data.toList = true then addTo s (.mk 1 nm attrs (tB []) []) else ⟨⟨nm, attrs, []⟩ :: s.fs, s.out⟩
/-- The loop of begin: i are shut. -/
structure BegAtB (lo a : Nat) (b' : Bst) (N : Nat) (attrs : List (ByteArray × ByteArray)) (va : Value) (w w1 wr : World) : Prop where
  is : IsAtK lo a b' N (knew w w1) wr
  box : wr.heap[w.heap.size]? = w1.heap[w.heap.size]?
  bel : Below lo w wr
  att : AttrsAt (· < w.heap.size) wr attrs va
set_option maxRecDepth 100000 in
theorem BegAtB.keep {lo a : Nat} {b' : Bst} {N : Nat} {attrs : List (ByteArray × ByteArray)} {va : Value} {w w1 wr wx : World} (h : BegAtB lo a b' N attrs va w w1 wr) (hw : w.heap.size < wr.heap.size) (hlo : lo ≤ w.heap.size) (hb : Below wr.heap.size wr wx) : BegAtB lo a b' N attrs va w w1 wx :=
  ⟨h.is.keep hb, (hb.block _ hw).trans h.box, h.bel.trans (hb.mono (by omega)), h.att.keep (Kept.belowB hb fun b hb => Nat.lt_trans hb hw)⟩
def BegRelB (lo a : Nat) (b : Bst) (N j : Nat) (attrs : List (ByteArray × ByteArray)) (va : Value) (w w1 wr : World) : Prop := ∃ i, i ≤ j ∧ BegAtB lo a (popN i b) N attrs va w w1 wr
/-- An element that has just been made. -/
structure NewEl (w3 wx : World) (g : Nat) (nm : ByteArray) (attrs : List (ByteArray × ByteArray)) : Prop where
  bel : Below w3.heap.size w3 wx
  new : newB w3 wx g
  blk : ∃ va, wx.heap[g]? = some (.cells (fmBlk ⟨g, nm, attrs, va, .slice none 0 0, []⟩) 166 (0, 0)) ∧ AttrsAt (newB w3 wx) wx attrs va ∧ (0 < attrs.length → ∀ k, va.ownBlock = some k → k ≠ g)
/-- What the loop's test tells. -/
def openQ (b : Bst) (nm : ByteArray) : Bool := match b.fs with | [] => false | f :: _ => closesB f.name.data.toList nm.data.toList

set_option maxRecDepth 100000 in
theorem new_el {w3 w4 : World} {nm : ByteArray} {attrs : List (ByteArray × ByteArray)} {A1 : Option Addr} {c1 al : Nat} (hal : attrs.length = al) (hb : Below w3.heap.size w3 w4) (ha : AttrsAt (fun b => w3.heap.size ≤ b ∧ b < w4.heap.size) w4 attrs (.slice A1 attrs.length c1)) :
    NewEl w3 (w4.alloc (.cells #[.int .i64 1, .string nm, .slice A1 al c1, .string ⟨#[]⟩, .pointer none, .slice none 0 0, .slice none 0 0] 166)) w4.heap.size nm attrs := by
  subst hal
  have hs := hb.size
  refine ⟨hb.alloc hs _, ⟨hs, by simp⟩, _, box_here w4 _ _, (ha.keep (Kept.below (below_new _ _) fun b h => h.2)).mono fun b h => ⟨h.1, by rw [World.size_alloc]; omega⟩, fun h0 k hk e => ?_⟩
  obtain ⟨b, o, c, hv, _, hb2, _⟩ := ha.at_ h0
  rw [hv] at hk
  injection hk with hk
  have h3 : b < w4.heap.size := hb2.2
  have h4 : b = k := hk
  omega

set_option maxHeartbeats 8000000 in
set_option maxRecDepth 100000 in
theorem begin_anyB {lo a : Nat} {b : Bst} {N : Nat} {w : World} (h : IsAtB lo a b N w) (nm tx : ByteArray) (attrs : List (ByteArray × ByteArray)) (A : Option Addr) (c : Nat) (hat : AttrsAt (· < w.heap.size) w attrs (.slice A attrs.length c)) (hz : szB b ≤ 50000000) (hN : N ≤ 900000000) (hnm : nm.size ≤ 40000000) (hal : attrs.length ≤ 100000000) (hlo : lo ≤ w.heap.size) :
    Calls Tryz.prog 180 #[.pointer (some ⟨a, 0, none⟩), .agg #[.int .i64 1, .string nm, .slice A attrs.length c, .string tx]] w (Did lo a (beginB b nm attrs) (N + 2) w) := by
  have mixed : Tryz.prog.follows Departure.mixedOrders = true := by kernel_rfl
  obtain ⟨al, hall⟩ : ∃ al, attrs.length = al := ⟨_, rfl⟩
  obtain ⟨w1, hw1⟩ : ∃ w1, w.alloc (.cells #[.int .i64 1, .string nm, .slice A al c, .string tx] 129) = w1 := ⟨_, rfl⟩
  have hb1 : Below w.heap.size w w1 := by rw [← hw1]; exact below_new _ _
  have hs1 : w1.heap.size = w.heap.size + 1 := by rw [← hw1]; simp
  have hbx : w1.heap[w.heap.size]? = some (.cells #[.int .i64 1, .string nm, .slice A al c, .string tx] 129 (0, 0)) := by rw [← hw1]; exact box_here w _ _
  obtain ⟨j, hj⟩ : ∃ j, (b.fs.takeWhile (shutBy nm.data.toList)).length = j := ⟨_, rfl⟩
  have hjl : j ≤ b.fs.length := by rw [← hj]; exact tw_leB _ _
  have hlt : ∀ i f, i < j → b.fs[i]? = some f → closesB f.name.data.toList nm.data.toList = true := fun i f hi hf => tw_lt (shutBy nm.data.toList) b.fs i f (by omega) hf
  have hatj : ∀ f, b.fs[j]? = some f → closesB f.name.data.toList nm.data.toList = false := fun f hf => tw_at (shutBy nm.data.toList) b.fs f (by rw [hj]; exact hf)
  -- what the test tells when i are shut
  have hq : ∀ i, i ≤ j → openQ (popN i b) nm = decide (i < j) := fun i hi => by
    unfold openQ
    cases hf : b.fs[i]? with
    | none =>
      have hl : b.fs.length ≤ i := by
        rcases Nat.lt_or_ge i b.fs.length with h2 | h2
        · rw [List.getElem?_eq_getElem h2] at hf; cases hf
        · exact h2
      have hn := congrArg List.length (popN_names i b)
      rw [List.length_map, List.length_drop, List.length_map] at hn
      rw [List.length_eq_zero_iff.1 (show (popN i b).fs.length = 0 by omega), decide_eq_false (by omega)]
    | some f =>
      obtain ⟨fr, rest, hfr, hfn⟩ := popN_at hf
      rw [hfr]
      show closesB fr.name.data.toList nm.data.toList = _
      rw [hfn]
      rcases Nat.lt_or_ge i j with h2 | h2
      · rw [decide_eq_true h2, hlt i f h2 hf]
      · obtain rfl : i = j := by omega
        rw [decide_eq_false (by omega), hatj f hf]
  have H0 := Lib.hid (show BegRelB lo a b N j attrs (.slice A attrs.length c) w w1 w1 from ⟨0, Nat.zero_le _, h.more hb1, rfl, hb1.mono hlo, hat.keep (Kept.belowB hb1 fun b h => h)⟩)
  have HX := Lib.hid (And.intro hbx hs1)
  have HJ := Lib.hid (And.intro hj hq)
  have HAL := Lib.hid hall
  rw [hall] at hal ⊢
  clear hb1 hs1 hbx hj hjl hlt hatj hq h hat hall
  go_enter Tryz.func180, Tryz.ntmps180
  go_wp2_with fail
  go_loopw [] (fun wr => BegRelB lo a b N j attrs (.slice A attrs.length c) w w1 wr) (fun wr => opLen a wr)
  case atStart => exact H0.out
  case round =>
    obtain ⟨i, hi, hR⟩ := hrel
    have hol := hR.is.opLen
    have hbz : szB (popN i b) ≤ 50000000 := Nat.le_trans (popN_sz i b) hz
    have hbxr : wr.heap[w.heap.size]? = _ := hR.box.trans HX.out.1
    have hwr : w.heap.size < wr.heap.size := (Array.getElem?_eq_some_iff.1 hbxr).1
    have hlr : lo ≤ wr.heap.size := by omega
    have HR := Lib.hid hR
    obtain ⟨q, hqq⟩ : ∃ q, decide (i < j) = q := ⟨_, rfl⟩
    have hqi := HJ.out.2 i hi
    rw [hqq] at hqi
    go_upto_region 1 with fail
    go_cut [21] (fun x wx => x = .bool q ∧ BegAtB lo a (popN i b) N attrs (.slice A attrs.length c) w w1 wx ∧ opLen a wx = opLen a wr ∧ wr.heap.size ≤ wx.heap.size)
    case first =>
      have hkd : Below wr.heap.size wr wr.drew := (Below.refl _ wr).drew
      have x1 : wr.drew.cell? ⟨w.heap.size, 1, none⟩ = some (.string nm) := cell_at hbxr 1
      obtain ⟨P, Q, s, hsa, hsb, _, _, h5, _⟩ := hR.is.keep hkd
      obtain ⟨A7, c7, hov, _⟩ := own_size h5.opn
      have e7 : wr.drew.cell? ⟨a, 7, none⟩ = some (.slice A7 s.fs.length c7) := by rw [← hsa]; exact (cell_at h5.blk 7).trans (by rw [← hov]; rfl)
      cases hfs : s.fs with
      | nil =>
        have hf0 : (popN i b).fs = [] := by
          have := bst_fs_len s []
          rw [hsb, hfs] at this
          exact List.length_eq_zero_iff.1 this
        have hq0 : q = false := by rw [← hqi]; unfold openQ; rw [hf0]
        subst hq0
        rw [hfs] at e7
        have e7' : wr.drew.cell? ⟨a, 7, none⟩ = some (.slice A7 0 c7) := e7
        have HE := Lib.hid (And.intro (hR.keep hwr hlo hkd) (hR.is.keep hkd).opLen)
        have HOL := Lib.hid hol
        clear h5 hov e7 hfs hf0 hqi hqq hsa hsb hbxr hkd hR hol
        go_region
        all_goals go_wp2_with fail
        all_goals go_meet
        all_goals exact ⟨rfl, HE.out.1, by rw [HE.out.2, HOL.out], Nat.le_refl _⟩
      | cons f fs =>
        have hlen : s.fs.length = fs.length + 1 := by rw [hfs]; rfl
        obtain ⟨fr, rest, hfr, hfn⟩ : ∃ fr rest, (popN i b).fs = fr :: rest ∧ fr.name = f.name := by
          rw [← hsb]
          unfold Stt.bst
          rw [hfs]
          exact ⟨_, _, rfl, rfl⟩
        have hq1 : closesB f.name.data.toList nm.data.toList = q := by
          rw [← hqi]
          unfold openQ
          rw [hfr]
          show closesB f.name.data.toList nm.data.toList = closesB fr.name.data.toList nm.data.toList
          rw [hfn]
        have hfz : szB (s.bst []) ≤ 50000000 := by rw [hsb]; exact hbz
        have hnz : f.name.size ≤ maxLen := by
          have : szB (bstOf (f :: fs) (s.tn ++ []) (s.R0.map Rp.n)) ≤ 50000000 := by
            have := hfz
            unfold Stt.bst at this
            rw [hfs] at this
            exact this
          have := name_small this
          unfold maxLen
          omega
        have hpl := place_any h5 (Nat.le_trans (fs_small hfz) (by decide))
        have htg : s.topG = f.g := by unfold Stt.topG; rw [hfs]
        rw [hsa, htg] at hpl
        have hff := h5.frs
        rw [hfs] at hff
        have g1 : wr.drew.cell? ⟨f.g, 1, none⟩ = some (.string f.name) := cell_at hff.2.1 1
        rw [hlen] at e7
        have hfl : fs.length + 1 ≤ 50000000 := by have := fs_small hfz; omega
        obtain ⟨fg, hfg⟩ : ∃ g, f.g = g := ⟨_, rfl⟩
        obtain ⟨fnm, hfnm⟩ : ∃ g, f.name = g := ⟨_, rfl⟩
        obtain ⟨k, hk⟩ : ∃ k, fs.length = k := ⟨_, rfl⟩
        rw [hfg] at g1 hpl
        rw [hfnm] at g1 hq1 hnz
        rw [hk] at e7 hfl
        have HCL := Lib.hid (fun W => ClosesD fnm nm W hnz)
        rw [hq1] at HCL
        have HPL := Lib.hid hpl
        have HE := Lib.hid (fun W (hW : Below wr.heap.size wr W) => And.intro (hR.keep hwr hlo hW) (hR.is.keep hW).opLen)
        have HOL := Lib.hid hol
        have HKD := Lib.hid (fun n => (bel_drewN hkd n : Below wr.heap.size wr (wr.drew.drewN n)))
        have HFC := Lib.hid (fun n => (⟨x1, g1⟩ : (wr.drew.drewN n).cell? ⟨w.heap.size, 1, none⟩ = some (.string nm) ∧ (wr.drew.drewN n).cell? ⟨fg, 1, none⟩ = some (.string fnm)))
        clear h5 hov hfs hqi hqq hsa hsb hbxr hkd hR hol hlen hfr hfn hq1 hfz hnz hpl htg hff hfg hfnm hk
        go_region_with (first
          | (go_at_call 185; refine (HCL.out _).mono ?_; rintro e wb ⟨rfl, hbb⟩; have hbw := below_after hba hbb)
          | (go_at_call 186; refine HPL.out.mono ?_; rintro e wa ⟨rfl, n, hwa⟩; have hfa := HFC.out n; have hba := HKD.out n; rw [← hwa] at hfa hba; obtain ⟨y1, g2⟩ := hfa; clear hwa))
        all_goals go_wp2_with fail
        all_goals go_meet
        all_goals exact ⟨rfl, (HE.out _ hbw).1, by rw [(HE.out _ hbw).2, HOL.out], hbw.size⟩
    case rest =>
      obtain ⟨rfl, hM, hO, hZ⟩ := hcut
      have hbxc : wc.heap[w.heap.size]? = _ := hM.box.trans HX.out.1
      have hwc : w.heap.size < wc.heap.size := (Array.getElem?_eq_some_iff.1 hbxc).1
      have hkb : ∀ k, knew w w1 k → lo ≤ k ∧ k < wc.heap.size := fun k hk => by
        rcases hk with hk | hk
        · exact hk.elim
        · have := HX.out.2
          have h1 := hk.1
          have h2 := hk.2
          omega
      cases q with
      | true =>
        have hij : i < j := of_decide_eq_true hqq
        obtain ⟨fr, rest, hfr⟩ : ∃ fr rest, (popN i b).fs = fr :: rest := by
          cases hp : (popN i b).fs with
          | nil => unfold openQ at hqi; rw [hp] at hqi; cases hqi
          | cons fr rest => exact ⟨fr, rest, rfl⟩
        have hlen : (popN i b).fs.length = rest.length + 1 := by rw [hfr]; rfl
        have hpl : (popB (popN i b)).fs.length < (popN i b).fs.length := by rw [pop_length]; omega
        have HS := Lib.hid (shut_any hM.is hfr (by omega) (by omega) (by omega) fun k hk => (hkb k hk).2)
        have hkx : knew w w1 w.heap.size := .inr ⟨Nat.le_refl _, by have := HX.out.2; omega⟩
        have HE := Lib.hid (fun w3 (h3 : IsAtK lo a (popB (popN i b)) N (knew w w1) w3) (hk3 : ∀ k, knew w w1 k → w3.heap[k]? = wc.heap[k]?) (hat3 : ∀ B l va, B ≤ wc.heap.size → AttrsAt (· < B) wc l va → AttrsAt (· < B) w3 l va) (hb3 : Below lo wc w3) =>
          (⟨⟨i + 1, by omega, by rw [popN_succ]; exact h3, (hk3 _ hkx).trans hM.box, hM.bel.trans hb3, hat3 _ _ _ (by omega) hM.att⟩, by rw [h3.opLen, ← hol.symm.trans rfl]; omega⟩ : BegRelB lo a b N j attrs (.slice A attrs.length c) w w1 w3 ∧ opLen a w3 < opLen a wr))
        clear hM hO hZ hbxc hwc hkb hqq hqi hfr hlen hpl hkx hbxr hR hol
        go_wp2_with fail
        refine HS.out.mono ?_
        rintro e w3 ⟨rfl, h3, hk3, hat3, hb3⟩
        have he := HE.out w3 h3 hk3 hat3 hb3
        go_wp2_with fail
        go_roundw
        case rel => exact he.1
        case measure => exact he.2
      | false =>
        obtain rfl : i = j := by have := of_decide_eq_false hqq; omega
        have hj := HJ.out.1
        obtain ⟨w3, rfl⟩ : ∃ w3, w3 = wc := ⟨_, rfl⟩
        obtain ⟨b', hb'⟩ : ∃ b', popN i b = b' := ⟨_, rfl⟩
        rw [hb'] at hM hbz
        have HBB := Lib.hid (And.intro hj hb')
        have x0 : w3.drew.cell? ⟨w.heap.size, 0, none⟩ = some (.int .i64 1) := cell_at hbxc 0
        have x1 : w3.drew.cell? ⟨w.heap.size, 1, none⟩ = some (.string nm) := cell_at hbxc 1
        have x2 : w3.drew.cell? ⟨w.heap.size, 2, none⟩ = some (.slice A al c) := cell_at hbxc 2
        have hdr : Below w3.heap.size w3 w3.drew := (Below.refl _ w3).drew
        have hfr := fresh_any attrs (.slice A attrs.length c) w3.drew ((hM.att.keep (Kept.belowB hdr fun b hb => Nat.lt_trans hb hwc)).mono fun b hb => Nat.lt_trans hb hwc) (by rw [HAL.out]; omega)
        rw [HAL.out] at hfr
        have HFR := Lib.hid hfr
        have HMM := Lib.hid hM
        have HBX := Lib.hid (And.intro hbxc (And.intro hwc hkb))
        have HDR := Lib.hid hdr
        clear hfr hM hbxc hkb hwc hdr hj hb' hqq hqi hO hZ hbxr hR hol HR hwr hlr hi H0 HJ
        go_upto_region 3 with fail
        go_cut [4] (fun x wx => ∃ g, x = .pointer (some ⟨g, 0, none⟩) ∧ NewEl w3 wx g nm attrs)
        case first =>
          go_region_with (first
            | (go_at_call 188; refine HFR.out.mono ?_; rintro e w4 ⟨A1, c1, rfl, ha4, hf4, hb4⟩; have hbb := HDR.out.trans hb4; have y0 := (hbb.cell (p := ⟨w.heap.size, 0, none⟩) HBX.out.2.1).trans (show w3.cell? ⟨w.heap.size, 0, none⟩ = some (.int .i64 1) from x0); have y1 := (hbb.cell (p := ⟨w.heap.size, 1, none⟩) HBX.out.2.1).trans (show w3.cell? ⟨w.heap.size, 1, none⟩ = some (.string nm) from x1)))
          all_goals go_wp2_with fail
          all_goals go_meet
          all_goals exact ⟨_, rfl, new_el HAL.out hbb (by rw [HAL.out]; exact ha4)⟩
        case rest =>
          obtain ⟨g, rfl, hN⟩ := hcut
          obtain ⟨K4, hK4⟩ : ∃ K4 : Nat → Prop, (fun k => knew w w1 k ∨ newB w3 wc k) = K4 := ⟨_, rfl⟩
          have hmore : IsAtK lo a b' N K4 wc := by rw [← hK4]; exact HMM.out.is.more hN.bel
          have hlo4 : ∀ k, K4 k → lo ≤ k ∧ k < wc.heap.size := by
            rw [← hK4]
            rintro k (hk | hk)
            · have h1 := HBX.out.2.2 k hk
              have h2 := hN.bel.size
              exact ⟨h1.1, by omega⟩
            · have h1 := HBX.out.2.1
              have h2 := hk.1
              exact ⟨by omega, hk.2⟩
          have hKw : K4 w.heap.size := by rw [← hK4]; exact .inl (.inr ⟨Nat.le_refl _, by have := HX.out.2; omega⟩)
          have hKg : K4 g := by rw [← hK4]; exact .inr hN.new
          have hlc : lo ≤ wc.heap.size := Nat.le_trans (hlo4 g hKg).1 (Nat.le_of_lt (hlo4 g hKg).2)
          have HAD := Lib.hid (addG_any hmore g (by omega) hlc fun k hk => (hlo4 k hk).2)
          have hbxw := (hN.bel.block _ HBX.out.2.1).trans HBX.out.1
          obtain ⟨va, hblk, hava, hag⟩ := hN.blk
          have hav : AttrsAt K4 wc attrs va := hava.mono fun k hk => by rw [← hK4]; exact .inr hk
          have hbw : Below lo w wc := HMM.out.bel.trans (hN.bel.mono (by have := HBX.out.2.1; omega))
          have HG := Lib.hid (And.intro hblk (And.intro hav (And.intro hag (And.intro hbxw (And.intro hKw (And.intro hKg (And.intro hlo4 hbw)))))))
          have HBZ := Lib.hid hbz
          clear hmore hlo4 hKw hKg hlc hbxw hblk hava hag hav hbw hN hK4 x0 x1 x2 HMM HBX HDR HFR hbz
          go_wp2_with fail
          refine HAD.out.mono ?_
          rintro e w6 ⟨⟨x, rfl⟩, hp, hb6⟩
          obtain ⟨hblk, hav, hag, hbxw, hKw, hKg, hlo4, hbw⟩ := HG.out
          have hk6 : ∀ k, K4 k → w6.heap[k]? = wc.heap[k]? := by
            obtain ⟨_, _, _, _, _, _, _, _, _, h6, _⟩ := hp
            exact h6
          have hbx6 := (hk6 _ hKw).trans hbxw
          have z1 : w6.cell? ⟨w.heap.size, 1, none⟩ = some (.string nm) := cell_at hbx6 1
          have hbe : Below lo w w6 := hbw.trans hb6
          obtain ⟨q2, hq2⟩ : ∃ q2, voidB nm.data.toList = q2 := ⟨_, rfl⟩
          have HV := Lib.hid (void_any nm)
          rw [hq2] at HV
          have hbeg : beginB b nm attrs = if q2 = true then addTo b' (.mk 1 nm attrs (tB []) []) else ⟨⟨nm, attrs, []⟩ :: b'.fs, b'.out⟩ := by
            unfold beginB
            rw [HBB.out.1, HBB.out.2, hq2]
          cases q2 with
          | true =>
            rw [if_pos rfl] at hbeg
            have hcl := PlusAt.closed (K := K4) ((⟨g, nm, attrs, va, .slice none 0 0, []⟩ : Fm).rp []) hp hlo4 ⟨hKg, fm_cells hblk [], .elem rfl rfl, hav, PTree.nil _ _ _⟩ (show (1 : Int) ≠ 2 by decide)
            have HE := Lib.hid (show Did lo a (beginB b nm attrs) (N + 2) w (.returned (.tuple #[])) w6 from ⟨⟨_, rfl⟩, by rw [hbeg]; exact hcl.less (by omega), hbe⟩)
            clear hp hb6 hblk hav hag hbxw hKw hKg hlo4 hbw hk6 hbx6 hbe hq2 hbeg hcl
            go_wp2_with fail
            refine (HV.out _).mono ?_
            rintro e w7 ⟨rfl, rfl⟩
            go_wp2_with fail
            go_end0
            exact HE.out
          | false =>
            rw [if_neg (by decide)] at hbeg
            obtain ⟨A7, n7, c7, hn7, e7, A8, c8, w8, hrun, ⟨v8, d7⟩, f7, M, cn, hcn, HK⟩ := PlusAt.frame (K := K4) ⟨g, nm, attrs, va, .slice none 0 0, []⟩ hp hlo4 (by have := HBZ.out; omega) (by omega) (by show nm.size ≤ _; omega) hKg hblk hav hag rfl rfl
            obtain ⟨hkk, m8, hlk, w9, hup, hIs, hb9⟩ := HK 1
            have m1 : ((w8.setCell ⟨a, 7, none⟩ (.slice A8 (n7 + 1) c8)).drewN 1).cell? ⟨w.heap.size, 1, none⟩ = some (.string nm) := cell_at ((hkk _ hKw).trans hbxw) 1
            have HE := Lib.hid (show Did lo a (beginB b nm attrs) (N + 2) w (.returned (.tuple #[])) w9 from ⟨⟨_, rfl⟩, by rw [hbeg]; exact hIs, hbe.trans hb9⟩)
            clear hp hb6 hblk hav hag hbxw hKw hKg hlo4 hbw hk6 hbx6 hbe hq2 hbeg HK hkk hIs hb9
            go_wp2_with fail
            refine (HV.out _).mono ?_
            rintro e w7 ⟨rfl, rfl⟩
            go_wp2_with (at_builtin; refine wpList_run_append2 rfl _ _ rfl _ _ _ rfl rfl hrun ?_)
            obtain ⟨wq, hwq⟩ : ∃ wq, w8.setCell ⟨a, 7, none⟩ (.slice A8 (n7 + 1) c8) = wq := ⟨_, rfl⟩
            rw [hwq] at m8 hlk hup m1 ⊢
            clear hrun d7 f7 e7 hwq
            have m8' : wq.drew.cell? ⟨a, 8, none⟩ = some (.map (some M)) := m8
            have m1' : wq.drew.cell? ⟨w.heap.size, 1, none⟩ = some (.string nm) := m1
            have hlk' : (Instr.lookup 163 (.map (some M)) (.string nm) false).run Tryz.prog wq.drew = .ok (.int .i64 (cn : Nat)) wq.drew := hlk
            have hup' : (Instr.mapUpdate 163 (.map (some M)) (.string nm) (.int .i64 ((cn : Int) + 1))).run Tryz.prog wq.drew = .ok () w9 := hup
            clear m8 m1 hlk hup
            go_region
            all_goals go_wp2_with fail
            all_goals go_end0
            all_goals exact HE.out

end Go.Proofs.YthmnnalamaponaaGreat

/- Part BdU. -/
namespace Go.Proofs.YthmnnalamaponaaGreat
open Go.RowKit
set_option linter.unusedVariables false

/-- The cells of a node, stored one by one. -/
def put5 (W : World) (k : Nat) (a b c d e : Value) : World := ((((W.setCell ⟨k, 0, none⟩ a).setCell ⟨k, 1, none⟩ b).setCell ⟨k, 2, none⟩ c).setCell ⟨k, 3, none⟩ d).setCell ⟨k, 4, none⟩ e
theorem put5_off {W : World} {k : Nat} (a b c d e : Value) {S : Nat → Prop} (hk : ¬ S k) : Kept S W (put5 W k a b c d e) := by
  intro i hi j
  have hne : k ≠ i := fun h => hk (h ▸ hi)
  unfold put5
  have h1 : ∀ m : Nat, (⟨k, m, none⟩ : Addr) ≠ ⟨i, j, none⟩ := fun m h => hne (by injection h)
  rw [World.cell?_setCell_other _ _ _ _ (h1 4), World.cell?_setCell_other _ _ _ _ (h1 3), World.cell?_setCell_other _ _ _ _ (h1 2), World.cell?_setCell_other _ _ _ _ (h1 1), World.cell?_setCell_other _ _ _ _ (h1 0)]
theorem put5_heap {W : World} {k j : Nat} (a b c d e : Value) (hj : j ≠ k) : (put5 W k a b c d e).heap[j]? = W.heap[j]? := by
  unfold put5
  exact ((((heap_setCell_other _ ⟨k, 4, none⟩ j e hj).trans (heap_setCell_other _ ⟨k, 3, none⟩ j d hj)).trans (heap_setCell_other _ ⟨k, 2, none⟩ j c hj)).trans (heap_setCell_other _ ⟨k, 1, none⟩ j b hj)).trans (heap_setCell_other _ ⟨k, 0, none⟩ j a hj)
theorem put5_size (W : World) (k : Nat) (a b c d e : Value) : (put5 W k a b c d e).heap.size = W.heap.size := by simp [put5]
theorem Calm.setCell {F : Nat → Nat → Prop} {w W : World} (h : Calm F w W) {p : Addr} (hp : w.heap.size ≤ p.block) (v : Value) : Calm F w (W.setCell p v) := by
  refine ⟨h.os, h.tape, h.output, by rw [World.size_setCell]; exact h.size, fun j hj => ?_⟩
  rw [heap_setCell_other W p j v (by omega)]
  exact h.blk j hj
theorem Calm.put5 {F : Nat → Nat → Prop} {w W : World} (h : Calm F w W) {k : Nat} (hk : w.heap.size ≤ k) (a b c d e : Value) : Calm F w (put5 W k a b c d e) :=
  ((((h.setCell (p := ⟨k, 0, none⟩) hk a).setCell (p := ⟨k, 1, none⟩) hk b).setCell (p := ⟨k, 2, none⟩) hk c).setCell (p := ⟨k, 3, none⟩) hk d).setCell (p := ⟨k, 4, none⟩) hk e

theorem calm_grown {F : Nat → Nat → Prop} {w W W' : World} {row : Option Nat} (h : Calm F w W) (hg : W.grownBy W' row) (hr : ∀ g, row = some g → w.heap.size ≤ g) : Calm F w W' := by
  refine ⟨hg.os.trans h.os, hg.tape.trans h.tape, hg.output.trans h.output, Nat.le_trans h.size hg.size, fun k hk => ?_⟩
  rw [hg.block k (Nat.lt_of_lt_of_le hk h.size) (fun e => by have := hr k e.symm; omega)]
  exact h.blk k hk

/-- The result's own cells, as they were laid. -/
structure ResBox (w W : World) : Prop where
  hb : W.heap[w.heap.size]? = some (.cells #[.int .i64 0, .string ⟨#[]⟩, .slice none 0 0, .string ⟨#[]⟩, .slice none 0 0] 35 (0, 0))
  x0 : W.cell? ⟨w.heap.size, 0, none⟩ = some (.int .i64 0)
  x1 : W.cell? ⟨w.heap.size, 1, none⟩ = some (.string ⟨#[]⟩)
  x2 : W.cell? ⟨w.heap.size, 2, none⟩ = some (.slice none 0 0)
  x3 : W.cell? ⟨w.heap.size, 3, none⟩ = some (.string ⟨#[]⟩)
  x4 : W.cell? ⟨w.heap.size, 4, none⟩ = some (.slice none 0 0)
  f0 : W.frozen? ⟨w.heap.size, 0, none⟩ = false
  f1 : W.frozen? ⟨w.heap.size, 1, none⟩ = false
  f2 : W.frozen? ⟨w.heap.size, 2, none⟩ = false
  f3 : W.frozen? ⟨w.heap.size, 3, none⟩ = false
  f4 : W.frozen? ⟨w.heap.size, 4, none⟩ = false
theorem ResBox.of {w W : World} (h : W.heap[w.heap.size]? = some (.cells #[.int .i64 0, .string ⟨#[]⟩, .slice none 0 0, .string ⟨#[]⟩, .slice none 0 0] 35 (0, 0))) : ResBox w W :=
  ⟨h, cell_at h 0, cell_at h 1, cell_at h 2, cell_at h 3, cell_at h 4, froz_at h 0, froz_at h 1, froz_at h 2, froz_at h 3, froz_at h 4⟩

/-- A node, told. -/
def ToldN (F : Nat → Nat → Prop) (w : World) (n : Nd) (e : Ending) (w' : World) : Prop :=
  ∃ A c A2 c2, e = .returned (.agg #[.int .i64 n.kind, .string n.name, .slice A n.attrs.length c, .string n.text, .slice A2 n.kids.length c2]) ∧
    AttrsAt (fun b => w.heap.size ≤ b ∧ b < w'.heap.size) w' n.attrs (.slice A n.attrs.length c) ∧ FreeA w' (.slice A n.attrs.length c) ∧ Tree (fun b => w.heap.size ≤ b ∧ b < w'.heap.size) w' n.kids (.slice A2 n.kids.length c2) ∧ Calm F w w'
/-- Nodes, told. -/
def ToldL (F : Nat → Nat → Prop) (w : World) (l : List Nd) (e : Ending) (w' : World) : Prop :=
  ∃ v', e = .returned v' ∧ OwnF w' w.heap.size (fun b => w.heap.size ≤ b) l v' ∧ Calm F w w'

theorem told_elem {F : Nat → Nat → Prop} {n : Nd} {w w0 wb wa : World} {A1 A2 : Option Addr} {k1 k2 : Nat} (hk : n.kind = 1 ∧ n.text = ⟨#[]⟩) (hs : w0.heap.size = w.heap.size + 1) (hb0 : Below w.heap.size w w0)
    (ha : AttrsAt (fun b => w0.heap.size ≤ b ∧ b < wb.heap.size) wb n.attrs (.slice A1 n.attrs.length k1)) (hf : FreeA wb (.slice A1 n.attrs.length k1)) (hbb : Below w0.heap.size w0 wb) (hca : Calm F wb wa) (hbx : wa.heap[w.heap.size]? = some (.cells #[.int .i64 0, .string ⟨#[]⟩, .slice none 0 0, .string ⟨#[]⟩, .slice none 0 0] 35 (0, 0))) (ho : OwnF wa wb.heap.size (fun b => wb.heap.size ≤ b) n.kids (.slice A2 n.kids.length k2)) (a b c d e : Value) :
    ToldN F w n (.returned (.agg #[.int .i64 1, .string n.name, .slice A1 n.attrs.length k1, .string ⟨#[]⟩, .slice A2 n.kids.length k2])) (put5 wa w.heap.size a b c d e) := by
  have h1 := hbb.size
  have h2 := hca.size
  refine ⟨A1, k1, A2, k2, by rw [hk.1, hk.2], ?_, fun b' o m q hv => ?_, ?_, ((Calm.below hb0).trans ((Calm.below hbb).trans hca)).put5 (Nat.le_refl _) a b c d e⟩
  · have := ((ha.keep (hca.kept fun b hb => hb.2)).keep (put5_off (W := wa) (k := w.heap.size) a b c d e (by intro h; omega)))
    exact this.mono fun b hb => ⟨by omega, by rw [put5_size]; omega⟩
  · obtain ⟨cur, hc⟩ := (hf.calm hca) b' o m q hv
    refine ⟨cur, (put5_heap a b c d e ?_).trans hc⟩
    intro e1
    subst e1
    rw [hbx] at hc
    injection hc with hc
    injection hc with _ hc
    exact absurd hc (by decide)
  · have ht := OwnK.tree ho.ownK fun b hb => hb
    exact ((ht.keep (put5_off (W := wa) (k := w.heap.size) a b c d e (by intro h; omega))).mono fun b hb => ⟨by omega, by rw [put5_size]; omega⟩)

theorem told_leaf {F : Nat → Nat → Prop} {n : Nd} {w wa : World} {kd : Int} {tx : ByteArray} (hk : n.kind = kd) (hn : n.name = ⟨#[]⟩) (ha : n.attrs = []) (hc : n.kids = []) (ht : n.text = tx) (h : Calm F w wa) (a b c d e : Value) :
    ToldN F w n (.returned (.agg #[.int .i64 kd, .string ⟨#[]⟩, .slice none 0 0, .string tx, .slice none 0 0])) (put5 wa w.heap.size a b c d e) := by
  refine ⟨none, 0, none, 0, by rw [hk, hn, ht, ha, hc]; rfl, ?_, (fun b' o m q hv => by cases hv), ?_, h.put5 (Nat.le_refl _) a b c d e⟩
  · rw [ha]; exact AttrsAt.nil _ _
  · rw [hc]; exact Tree.nil _ _

theorem Tree.nilc (S : Nat → Prop) (w : World) : Tree S w [] (.slice none ([] : List Nd).length 0) := Tree.nil S w
theorem nd_eta (n : Nd) : n = .mk n.kind n.name n.attrs n.text n.kids := by cases n; rfl

set_option maxHeartbeats 4000000 in
set_option maxRecDepth 100000 in
theorem toldN_any (F : Nat → Nat → Prop) (r : Rp) (w : World) (hF : ∀ k m, F k m → k < w.heap.size) (hO : POne (· < w.heap.size) F w r) (hz : szN r.n ≤ 100000000)
    (hT : ∀ W, Calm F w W → Calls Tryz.prog 179 #[r.vk] W (ToldL F W r.n.kids)) :
    Calls Tryz.prog 184 #[.pointer (some ⟨r.g, 0, none⟩)] w (ToldN F w r.n) := by
  have mixed : Tryz.prog.follows Departure.mixedOrders = true := by kernel_rfl
  obtain ⟨hg, ⟨c0, c1, c2, c3, c5, c6⟩, hkn, hat, hkids⟩ := hO
  rw [szN_eq] at hz
  have hz1 := szA_len r.n.attrs
  obtain ⟨n, g, va, vk, pre, bv, mo⟩ := r
  obtain ⟨Ak, ck, hvk, _⟩ := hkids.shape
  obtain ⟨Aa, ca, hva, _, _⟩ := id hat
  simp only at *
  subst hvk
  subst hva
  obtain ⟨w0, hw0⟩ : ∃ w0, w.alloc (.cells #[.int .i64 0, .string ⟨#[]⟩, .slice none 0 0, .string ⟨#[]⟩, .slice none 0 0] 35) = w0 := ⟨_, rfl⟩
  have hb0 : Below w.heap.size w w0 := by rw [← hw0]; exact below_new _ _
  have hs0 : w0.heap.size = w.heap.size + 1 := by rw [← hw0]; simp
  have hbx0 : w0.heap[w.heap.size]? = some (.cells #[.int .i64 0, .string ⟨#[]⟩, .slice none 0 0, .string ⟨#[]⟩, .slice none 0 0] 35 (0, 0)) := by rw [← hw0]; exact box_here w _ _
  -- what is so in every world from here on
  have HM := Lib.hid (fun (W : World) (h : Calm F w0 W) => (⟨(h.cell (p := ⟨g, 0, none⟩) (by show g < _; omega)).trans ((hb0.cell (p := ⟨g, 0, none⟩) hg).trans c0), (h.cell (p := ⟨g, 1, none⟩) (by show g < _; omega)).trans ((hb0.cell (p := ⟨g, 1, none⟩) hg).trans c1),
    (h.cell (p := ⟨g, 2, none⟩) (by show g < _; omega)).trans ((hb0.cell (p := ⟨g, 2, none⟩) hg).trans c2), (h.cell (p := ⟨g, 3, none⟩) (by show g < _; omega)).trans ((hb0.cell (p := ⟨g, 3, none⟩) hg).trans c3), (h.cell (p := ⟨g, 5, none⟩) (by show g < _; omega)).trans ((hb0.cell (p := ⟨g, 5, none⟩) hg).trans c5),
    (h.cell (p := ⟨g, 6, none⟩) (by show g < _; omega)).trans ((hb0.cell (p := ⟨g, 6, none⟩) hg).trans c6), ResBox.of (h.same hbx0 (fun c fz e => by injection e with _ e; exact absurd e (by decide)))⟩ :
      W.cell? ⟨g, 0, none⟩ = some (.int .i64 (tkd n.kind)) ∧ W.cell? ⟨g, 1, none⟩ = some (.string n.name) ∧ W.cell? ⟨g, 2, none⟩ = some (.slice Aa n.attrs.length ca) ∧ W.cell? ⟨g, 3, none⟩ = some (.string pre) ∧ W.cell? ⟨g, 5, none⟩ = some bv ∧ W.cell? ⟨g, 6, none⟩ = some (.slice Ak n.kids.length ck) ∧
      ResBox w W))
  have HCM := Lib.hid (fun (W : World) (h : Calm F w0 W) => (Calm.below (F := F) hb0).trans h)
  obtain ⟨d0, d1, d2, d3, d5, d6, _⟩ := HM.out w0 (Calm.refl _ _)
  have HAT := Lib.hid hat
  have HB0 := Lib.hid hb0
  have HS0 := Lib.hid hs0
  have HTT := Lib.hid hT
  clear hkids c0 c1 c2 c3 c5 c6 hT hbx0 hat
  cases hkn with
  | elem hk ht =>
    simp only at hk ht
    have htk : tkd n.kind = 1 := by rw [hk]; rfl
    rw [htk] at d0
    have HK := Lib.hid (And.intro hk ht)
    have HFR := Lib.hid (fun (W : World) (h : Calm F w0 W) => fresh_any n.attrs (.slice Aa n.attrs.length ca) W ((HAT.out.keep (((Calm.below (F := F) HB0.out).trans h).kept fun b h => h)).mono fun b hb => Nat.lt_of_lt_of_le hb (Nat.le_trans HB0.out.size h.size)) (by omega))
    clear hk ht htk
    go_enter Tryz.func184, Tryz.ntmps184
    go_upto_region 1 with fail
    clear hw0 hb0 hs0
    go_upto_region 3 with fail
    have hdr : Calm F w0 w0.drew := Calm.below ((Below.refl _ _).drew)
    go_region_with (first
      | (go_at_call 179; refine (HTT.out _ (HCM.out _ hcb)).mono ?_; rintro e wa ⟨v2, rfl, ho2, hca⟩; obtain ⟨A2, k2, rfl, _⟩ := OwnT.shape ho2.ownK; have hcc := hcb.trans hca; obtain ⟨y0, y1, y2, y3, y5, y6, ⟨hbx, x0, x1, x2, x3, x4, f0, f1, f2, f3, f4⟩⟩ := HM.out wa hcc; have HBX := Lib.hid hbx; clear hbx)
      | (go_at_call 188; refine (HFR.out _ hdr).mono ?_; rintro e wb ⟨A1, k1, rfl, ha1, hf1, hbb⟩; have hcb := hdr.trans (Calm.below hbb); obtain ⟨z0, z1, z2, z3, z5, z6, _⟩ := HM.out wb hcb))
    all_goals go_wp2_with fail
    all_goals refine bodyPost_ret (v := .agg #[.int .i64 1, .string n.name, .slice A1 n.attrs.length k1, .string ⟨#[]⟩, .slice A2 n.kids.length k2]) ?_ rfl ?_
    all_goals first
      | exact told_elem HK.out HS0.out HB0.out ha1 hf1 (((Below.refl _ w0).drew).trans hbb) hca HBX.out ho2 _ _ _ _ _
      | simp [results, Tryz.f184, go_sem, x0, x1, x2, x3, x4]
  | text hk hn ha hc ht hb hFb =>
    simp only at hk hn ha hc ht hb hFb
    have htk : tkd n.kind = 3 := by rw [hk]; rfl
    rw [htk] at d0
    have hbb := hb.calm (Calm.below (F := F) HB0.out)
    obtain ⟨ms, hms⟩ : ∃ ms : ByteArray, (⟨mo.toArray⟩ : ByteArray) = ms := ⟨_, rfl⟩
    have hsz : pre.size + ms.size ≤ 100000000 := by
      have h1 : n.text.size = pre.size + ms.size := by rw [ht, hms, ByteArray.size_append]
      omega
    have HST := Lib.hid (fun (W : World) (h : Calm F w0 W) => string7_any F g bv mo W (HM.out W h).2.2.2.2.1 (hbb.calm h) hFb)
    rw [hms] at ht HST
    have HK := Lib.hid (And.intro hk (And.intro hn (And.intro ha (And.intro hc ht))))
    have i5 : ¬ (9223372036854775807 < pre.size + ms.size) := by omega
    clear hk hn ha hc ht hb hFb htk hbb hms hsz
    go_enter Tryz.func184, Tryz.ntmps184
    go_upto_region 1 with fail
    clear hw0 hb0 hs0
    go_upto_region 5 with fail
    have hdr : Calm F w0 w0.drew := Calm.below ((Below.refl _ _).drew)
    go_region_with (first
      | (go_at_call 80; refine (HST.out _ hdr).mono ?_; rintro e wa ⟨rfl, hca'⟩; have hca := hdr.trans hca'; obtain ⟨y0, y1, y2, y3, y5, y6, ⟨hbx, x0, x1, x2, x3, x4, f0, f1, f2, f3, f4⟩⟩ := HM.out wa hca))
    all_goals go_wp2_with fail
    all_goals refine bodyPost_ret (v := .agg #[.int .i64 2, .string ⟨#[]⟩, .slice none 0 0, .string (pre ++ ms), .slice none 0 0]) ?_ rfl ?_
    all_goals first
      | exact told_leaf HK.out.1 HK.out.2.1 HK.out.2.2.1 HK.out.2.2.2.1 HK.out.2.2.2.2 (HCM.out _ hca) _ _ _ _ _
      | simp [results, Tryz.f184, go_sem, x0, x1, x2, x3, x4]
  | comm hk hn ha hc ht =>
    simp only at hk hn ha hc ht
    have htk : tkd n.kind = 4 := by rw [hk]; rfl
    rw [htk] at d0
    obtain ⟨_, x0, x1, x2, x3, x4, f0, f1, f2, f3, f4⟩ : ResBox w w0 := (HM.out w0 (Calm.refl _ _)).2.2.2.2.2.2
    have HK := Lib.hid (And.intro hk (And.intro hn (And.intro ha (And.intro hc ht))))
    clear hk hn ha hc ht htk
    go_enter Tryz.func184, Tryz.ntmps184
    go_upto_region 1 with fail
    clear hw0 hb0 hs0
    go_wp2_with fail
    refine bodyPost_ret (v := .agg #[.int .i64 3, .string ⟨#[]⟩, .slice none 0 0, .string pre, .slice none 0 0]) ?_ rfl ?_
    all_goals first
      | exact told_leaf HK.out.1 HK.out.2.1 HK.out.2.2.1 HK.out.2.2.2.1 HK.out.2.2.2.2 (HCM.out _ (Calm.refl _ _)) _ _ _ _ _
      | simp [results, Tryz.f184, go_sem, x0, x1, x2, x3, x4]

/-! ### the list -/
structure ToldAt (F : Nat → Nat → Prop) (w wr : World) (l : List Nd) (k : Nat) (v : Value) : Prop where
  le : k ≤ l.length
  own : OwnF wr w.heap.size (fun b => w.heap.size ≤ b) (l.take k) v
  calm : Calm F w wr
def ToldRel (F : Nat → Nat → Prop) (w : World) (l : List Nd) (x y : Value) (wr : World) : Prop := ∃ k : Nat, y = .int .i64 k ∧ ToldAt F w wr l k x

set_option maxHeartbeats 4000000 in
set_option maxRecDepth 100000 in
theorem toldL_any (F : Nat → Nat → Prop) : ∀ (l : List Nd) (v : Value) (w : World), (∀ k m, F k m → k < w.heap.size) → PTree (· < w.heap.size) F w l v → szL l ≤ 100000000 →
    Calls Tryz.prog 179 #[v] w (ToldL F w l) := by
  refine sz_ind fun l ih => ?_
  intro v w hF hT hsz
  have hlen := szL_len l
  obtain ⟨A, c, rfl, hc⟩ := hT.shape
  have HT := Lib.hid hT
  have HIH := Lib.hid ih
  have HFL := Lib.hid hF
  clear hT ih hF
  go_enter Tryz.func179, Tryz.ntmps179
  go_wp2_with fail
  go_loopw [3, 8] (fun x y wr => ToldRel F w l x y wr) (fun _ y _ => l.length - (intOf y).toNat)
  case atStart => exact ⟨0, rfl, by omega, OwnF.nil _ _ _, Calm.refl _ _⟩
  case round =>
    obtain ⟨k, rfl, HR⟩ := hrel
    have hk := HR.le
    have HO := Lib.hid HR.own
    have HC := Lib.hid HR.calm
    clear HR
    by_cases hlt : k < l.length
    · obtain ⟨b, o, r, hA, hb, hcell, hn, hone⟩ := HT.out.at_ hlt
      subst hA
      have q0 : wr.cell? ⟨b, o + k, none⟩ = some (.pointer (some ⟨r.g, 0, none⟩)) := (HC.out.cell (p := ⟨b, o + k, none⟩) hb).trans hcell
      have hzn := szL_at hn
      have hkz : szL r.n.kids < szL l := by rw [szN_eq] at hzn; omega
      have hone' : POne (· < wr.heap.size) F wr r := (hone.keep (KeptB.calm HC.out (fun b h => h) HFL.out)).mono (fun b h => Nat.lt_of_lt_of_le h HC.out.size) fun _ _ h => h
      have hF' : ∀ k m, F k m → k < wr.heap.size := fun k m h => Nat.lt_of_lt_of_le (HFL.out k m h) HC.out.size
      have HN := Lib.hid (toldN_any F r wr hF' hone' (by omega) fun W hW => HIH.out r.n.kids hkz r.vk W (fun k m h => Nat.lt_of_lt_of_le (hF' k m h) hW.size)
        ((hone'.kids.keep (KeptB.calm hW (fun b h => h) hF')).mono (fun b h => Nat.lt_of_lt_of_le h hW.size) fun _ _ h => h) (by omega))
      have HTK := Lib.hid (show l.take (k + 1) = l.take k ++ [r.n] by rw [List.take_add_one, hn, Option.toList_some])
      have i1 : (k : Int) < (l.length : Int) := by omega
      have i2 : (0 : Int) ≤ (k : Int) := by omega
      have hk4 : k + 1 ≤ l.length := hlt
      have hwsz : w.heap.size ≤ wr.heap.size := HC.out.size
      have htl : (l.take k).length ≤ 1000000000 := by rw [List.length_take]; omega
      obtain ⟨out, hout⟩ : ∃ out, l.take k = out := ⟨_, rfl⟩
      rw [hout] at HTK HO htl
      obtain ⟨nn, hnn⟩ : ∃ nn, r.n = nn := ⟨_, rfl⟩
      rw [hnn] at HN HTK
      clear hcell hn hone hone' hF' hzn hkz hout hnn
      go_wp2_with fail
      refine HN.out.mono ?_
      rintro e w1 ⟨A1, k1, A2, k2, rfl, hat, hfr, htr, hcm⟩
      have hO1 := HO.out.calm hcm
      have hs1 := hcm.size
      obtain ⟨o3, ho3⟩ : ∃ o3 : Obj, Obj.cells #[.int .i64 nn.kind, .string nn.name, .slice A1 nn.attrs.length k1, .string nn.text, .slice A2 nn.kids.length k2] 35 = o3 := ⟨_, rfl⟩
      have hbn := below_new w1 o3
      have hcn : Calm F w1 (w1.alloc o3) := Calm.below hbn
      have hSS : ∀ b, (wr.heap.size ≤ b ∧ b < w1.heap.size) → SubK (fun b => w.heap.size ≤ b) (w1.alloc o3) u3 b := fun b hb => ⟨by show w.heap.size ≤ b; omega, by rw [World.size_alloc]; omega, fun e => by have := (HO.out.lt _ e).2; omega⟩
      have HO1 := Lib.hid (hO1.calm hcn)
      have HAT := Lib.hid ((hat.keep (Kept.below hbn fun b h => h.2)).mono hSS)
      have HTR := Lib.hid ((htr.keep (Kept.below hbn fun b h => h.2)).mono hSS)
      have HFR := Lib.hid (hfr.calm hcn)
      have HCN := Lib.hid ((HC.out.trans hcm).trans hcn)
      have HN5 := Lib.hid (new_five w1 35 ⟨nn, .slice A1 nn.attrs.length k1, .slice A2 nn.kids.length k2⟩)
      rw [← ho3] at HO1 HAT HTR HFR HCN
      have hbase : w.heap.size ≤ (w1.alloc (Obj.cells #[.int .i64 nn.kind, .string nn.name, .slice A1 nn.attrs.length k1, .string nn.text, .slice A2 nn.kids.length k2] 35)).heap.size := by rw [World.size_alloc]; omega
      clear hat hfr htr hcm hO1 hbn hcn hSS ho3
      go_wp2_with (at_builtin; refine wpList_append_nodeF rfl _ _ rfl w.heap.size _ out _ rfl HO1.out ⟨nn, .slice A1 nn.attrs.length k1, .slice A2 nn.kids.length k2⟩ ⟨w1.heap.size, 0, none⟩ 1 rfl HN5.out HAT.out HTR.out HFR.out htl hbase ?_; intro v' w5 hown5 hg5)
      have hc5 : Calm F w w5 := calm_grown HCN.out hg5 (fun g hg => (HO1.out.lt g hg).1)
      have HO5 := Lib.hid hown5
      clear hown5 hg5
      go_roundw
      case rel => exact ⟨k + 1, by go_num, hk4, by rw [HTK.out]; exact HO5.out, hc5⟩
      case measure => simp [intOf]; omega
    · have hke : k = l.length := by omega
      have i1 : ¬ ((k : Int) < (l.length : Int)) := by omega
      have HE := Lib.hid (show ToldL F w l (.returned u3) wr from ⟨u3, rfl, by have := HO.out; rw [hke, List.take_length] at this; exact this, HC.out⟩)
      clear hlt
      go_wp2_with fail
      go_ret
      exact HE.out

end Go.Proofs.YthmnnalamaponaaGreat

/- Part BdZ. -/
namespace Go.Proofs.YthmnnalamaponaaGreat
open Go.RowKit
set_option linter.unusedVariables false

/-! ### the document's deeds -/
theorem put_begin (b : Bst) (k : Tk) (h : k.kind = 1) : putB b k = beginB b k.name k.attrs := by
  unfold putB beginB
  rw [if_pos h]
set_option maxRecDepth 100000 in
theorem put_end (b : Bst) (k : Tk) (h : k.kind = 2) : putB b k = endB b k.name := by
  unfold putB endB
  rw [if_neg (by rw [h]; decide), if_pos h]
set_option maxRecDepth 100000 in
theorem put_chars (b : Bst) (k : Tk) (h : k.kind = 3) : putB b k = addTo b (textN k.text) := by
  unfold putB
  rw [if_neg (by rw [h]; decide), if_neg (by rw [h]; decide), if_pos h]
set_option maxRecDepth 100000 in
theorem put_remark (b : Bst) (k : Tk) (h : k.kind = 4) : putB b k = addTo b (remN k.text) := by
  unfold putB
  rw [if_neg (by rw [h]; decide), if_neg (by rw [h]; decide), if_neg (by rw [h]; decide), if_pos h]
set_option maxRecDepth 100000 in
theorem put_other (b : Bst) (k : Tk) (h1 : k.kind ≠ 1) (h2 : k.kind ≠ 2) (h3 : k.kind ≠ 3) (h4 : k.kind ≠ 4) : putB b k = b := by
  unfold putB
  rw [if_neg h1, if_neg h2, if_neg h3, if_neg h4]

set_option maxRecDepth 100000 in
theorem dG_1 : dG 1 = some 180 := by decide
set_option maxRecDepth 100000 in
theorem dG_2 : dG 2 = some 181 := by decide
set_option maxRecDepth 100000 in
theorem dG_3 : dG 3 = some 182 := by decide
set_option maxRecDepth 100000 in
theorem dG_4 : dG 4 = some 183 := by decide
set_option maxRecDepth 100000 in
theorem dG_0 {k : Int} (h1 : k ≠ 1) (h2 : k ≠ 2) (h3 : k ≠ 3) (h4 : k ≠ 4) : dG k = none := by
  unfold dG updI
  rw [if_neg h4, if_neg h3, if_neg h2, if_neg h1]

/-- The builder of which tokens were built, in memory. -/
def InvB (lo : Nat) (ts : List Tk) (v : Value) (w : World) : Prop := ∃ a, v = .pointer (some ⟨a, 0, none⟩) ∧ IsAtB lo a (bldB ts) (2 * ts.length) w
set_option maxRecDepth 100000 in
theorem bldB_snoc (ts : List Tk) (k : Tk) : bldB (ts ++ [k]) = putB (bldB ts) k := by unfold bldB; rw [List.foldl_append]; rfl
set_option maxRecDepth 100000 in
theorem bldB_sz (ts : List Tk) : szB (bldB ts) ≤ szKs ts := by
  have := puts_sz ts ⟨[], []⟩
  have h0 : szB ⟨[], []⟩ = 0 := by unfold szB; rw [szL_nil]; rfl
  unfold bldB
  omega
set_option maxRecDepth 100000 in
theorem szK_parts (k : Tk) : k.name.size ≤ szK k ∧ k.text.size ≤ szK k ∧ 10 * k.attrs.length ≤ szK k := by
  have := szA_len k.attrs
  unfold szK
  exact ⟨by omega, by omega, by omega⟩

set_option maxHeartbeats 2000000 in
set_option maxRecDepth 100000 in
theorem put_any (lo : Nat) (ts : List Tk) (v : Value) (w : World) (k : Tk) (va : Value) (hlo : lo ≤ w.heap.size) (h : InvB lo ts v w) (hat : AttrsAt (· < w.heap.size) w k.attrs va) (hkw : Kw k) (hz : szKs (ts ++ [k]) ≤ 40000000) :
    Calls Tryz.prog 176 #[v, tokV k va] w fun e w' => (∃ x, e = .returned x) ∧ InvB lo (ts ++ [k]) v w' ∧ Below lo w w' := by
  have mixed : Tryz.prog.follows Departure.mixedOrders = true := by kernel_rfl
  obtain ⟨a, rfl, hi⟩ := h
  have hzz := hz
  rw [szKs_append] at hzz
  have hzk : szKs ts + szK k ≤ 40000000 := by simp only [szKs] at hzz; omega
  have hbz : szB (bldB ts) ≤ 40000000 := by have := bldB_sz ts; omega
  have htl : 10 * ts.length ≤ 40000000 := by have := szKs_len ts; omega
  obtain ⟨hk1, hk2, hk3⟩ := szK_parts k
  obtain ⟨A, c, hva, _, _⟩ := id hat
  obtain ⟨kd, nm, attrs, tx⟩ := k
  simp only at hva hk1 hk2 hk3 hat
  subst hva
  obtain ⟨al, hal⟩ : ∃ al, attrs.length = al := ⟨_, rfl⟩
  obtain ⟨w1, hw1⟩ : ∃ w1, w.alloc (.cells #[.int .i64 kd, .string nm, .slice A al c, .string tx] 129) = w1 := ⟨_, rfl⟩
  have hb1 : Below w.heap.size w w1 := by rw [← hw1]; exact below_new _ _
  have hbx : w1.heap[w.heap.size]? = some (.cells #[.int .i64 kd, .string nm, .slice A al c, .string tx] 129 (0, 0)) := by rw [← hw1]; exact box_here w _ _
  have hwl : w.heap.size < w1.heap.size := by rw [← hw1]; simp
  -- what each deed does, in whatever world from here on
  have HD := Lib.hid (fun (W : World) (hW : Below w.heap.size w W) (e : Ending) (w' : World) (b' : Bst) (h : Did lo a b' (2 * ts.length + 2) W e w') (hb' : b' = putB (bldB ts) ⟨kd, nm, attrs, tx⟩) =>
    (⟨h.1, ⟨a, rfl, by rw [bldB_snoc, List.length_append, ← hb']; exact h.2.1⟩, (hW.mono hlo).trans h.2.2⟩ : (∃ x, e = .returned x) ∧ InvB lo (ts ++ [⟨kd, nm, attrs, tx⟩]) (.pointer (some ⟨a, 0, none⟩)) w' ∧ Below lo w w'))
  have HIS := Lib.hid (fun (W : World) (hW : Below w.heap.size w W) => (hi.less (M := 2 * ts.length + 2) (by omega)).keep hW)
  have HAT := Lib.hid (fun (W : World) (hW : Below w.heap.size w W) => (hat.keep (Kept.belowB hW fun b h => h)).mono fun b hb => (Nat.lt_of_lt_of_le hb hW.size : b < W.heap.size))
  have HI0 := Lib.hid hi
  have hlw : ∀ W : World, Below w.heap.size w W → lo ≤ W.heap.size := fun W hW => Nat.le_trans hlo hW.size
  have HLW := Lib.hid hlw
  have hdr : Below w.heap.size w w1.drew := hb1.drew
  have x0 : w1.drew.cell? ⟨w.heap.size, 0, none⟩ = some (.int .i64 kd) := cell_at hbx 0
  have HKW := Lib.hid (show (Lit.int .i64 kd).wf = true from hkw)
  have HMM := Lib.hid (fun (W : World) (hW : Below w1.drew.heap.size w1.drew W) => (⟨below_after hdr hW, (hW.cell (p := ⟨w.heap.size, 0, none⟩) hwl).trans (show w1.drew.cell? ⟨w.heap.size, 0, none⟩ = _ from cell_at hbx 0), (hW.cell (p := ⟨w.heap.size, 1, none⟩) hwl).trans (show w1.drew.cell? ⟨w.heap.size, 1, none⟩ = _ from cell_at hbx 1), (hW.cell (p := ⟨w.heap.size, 2, none⟩) hwl).trans (show w1.drew.cell? ⟨w.heap.size, 2, none⟩ = _ from cell_at hbx 2), (hW.cell (p := ⟨w.heap.size, 3, none⟩) hwl).trans (show w1.drew.cell? ⟨w.heap.size, 3, none⟩ = _ from cell_at hbx 3)⟩ :
    Below w.heap.size w W ∧ W.cell? ⟨w.heap.size, 0, none⟩ = some (.int .i64 kd) ∧ W.cell? ⟨w.heap.size, 1, none⟩ = some (.string nm) ∧ W.cell? ⟨w.heap.size, 2, none⟩ = some (.slice A al c) ∧ W.cell? ⟨w.heap.size, 3, none⟩ = some (.string tx)))
  unfold tokV
  simp only
  rw [hal]
  have HAL := Lib.hid hal
  have hN : 2 * ts.length + 2 ≤ 900000000 := by omega
  have hways : kd = 1 ∨ kd = 2 ∨ kd = 3 ∨ kd = 4 ∨ (kd ≠ 1 ∧ kd ≠ 2 ∧ kd ≠ 3 ∧ kd ≠ 4) := by
    by_cases h1 : kd = 1
    · exact .inl h1
    · by_cases h2 : kd = 2
      · exact .inr (.inl h2)
      · by_cases h3 : kd = 3
        · exact .inr (.inr (.inl h3))
        · by_cases h4 : kd = 4
          · exact .inr (.inr (.inr (.inl h4)))
          · exact .inr (.inr (.inr (.inr ⟨h1, h2, h3, h4⟩)))
  clear hi hat hlw hdr hbx hb1 hwl hkw hz hzz hal
  rcases hways with rfl | rfl | rfl | rfl | ⟨h1, h2, h3, h4⟩
  · go_enter Tryz.func176, Tryz.ntmps176
    go_upto_region 1 with fail
    go_region_with (first
      | (go_at_call 178; refine (deeds_any _).mono ?_; rintro e w2 ⟨B, rfl, hD, hb2⟩; have hlk := hD.look 1 HKW.out; rw [dG_1] at hlk; have hlk2 : (Instr.lookup 171 (.map (some B)) (.int .i64 1) true).run Tryz.prog w2 = .ok (.tuple #[.func (.func 180) #[] #[], .bool true]) w2 := hlk; obtain ⟨hbw, y0, y1, y2, y3⟩ := HMM.out w2 hb2; clear hlk))
    all_goals go_wp2_with fail
    all_goals have hbg := begin_anyB (HI0.out.keep hbw) nm tx attrs A c (HAT.out w2 hbw) (by omega) (by omega) (by omega) (by omega) (HLW.out w2 hbw)
    all_goals rw [HAL.out] at hbg
    all_goals refine hbg.mono ?_
    all_goals rintro e w3 hd
    all_goals have he := HD.out w2 hbw e w3 _ hd (put_begin (bldB ts) ⟨1, nm, attrs, tx⟩ rfl).symm
    all_goals obtain ⟨x, rfl⟩ := he.1
    all_goals have HE := Lib.hid he.2
    all_goals clear he hd
    all_goals go_wp2_with fail
    all_goals go_end0
    all_goals exact ⟨⟨_, rfl⟩, HE.out⟩
  · go_enter Tryz.func176, Tryz.ntmps176
    go_upto_region 1 with fail
    go_region_with (first
      | (go_at_call 178; refine (deeds_any _).mono ?_; rintro e w2 ⟨B, rfl, hD, hb2⟩; have hlk := hD.look 2 HKW.out; rw [dG_2] at hlk; have hlk2 : (Instr.lookup 171 (.map (some B)) (.int .i64 2) true).run Tryz.prog w2 = .ok (.tuple #[.func (.func 181) #[] #[], .bool true]) w2 := hlk; obtain ⟨hbw, y0, y1, y2, y3⟩ := HMM.out w2 hb2; clear hlk))
    all_goals go_wp2_with fail
    all_goals refine (end_anyB (HIS.out w2 hbw) nm tx A al c (by omega) (by omega) (by omega) (HLW.out w2 hbw)).mono ?_
    all_goals rintro e w3 hd
    all_goals have he := HD.out w2 hbw e w3 _ hd (put_end (bldB ts) ⟨2, nm, attrs, tx⟩ rfl).symm
    all_goals obtain ⟨x, rfl⟩ := he.1
    all_goals have HE := Lib.hid he.2
    all_goals clear he hd
    all_goals go_wp2_with fail
    all_goals go_end0
    all_goals exact ⟨⟨_, rfl⟩, HE.out⟩
  · go_enter Tryz.func176, Tryz.ntmps176
    go_upto_region 1 with fail
    go_region_with (first
      | (go_at_call 178; refine (deeds_any _).mono ?_; rintro e w2 ⟨B, rfl, hD, hb2⟩; have hlk := hD.look 3 HKW.out; rw [dG_3] at hlk; have hlk2 : (Instr.lookup 171 (.map (some B)) (.int .i64 3) true).run Tryz.prog w2 = .ok (.tuple #[.func (.func 182) #[] #[], .bool true]) w2 := hlk; obtain ⟨hbw, y0, y1, y2, y3⟩ := HMM.out w2 hb2; clear hlk))
    all_goals go_wp2_with fail
    all_goals refine (chars_anyB (HIS.out w2 hbw) nm tx A al c (by omega) (by omega) (HLW.out w2 hbw)).mono ?_
    all_goals rintro e w3 hd
    all_goals have he := HD.out w2 hbw e w3 _ hd (put_chars (bldB ts) ⟨3, nm, attrs, tx⟩ rfl).symm
    all_goals obtain ⟨x, rfl⟩ := he.1
    all_goals have HE := Lib.hid he.2
    all_goals clear he hd
    all_goals go_wp2_with fail
    all_goals go_end0
    all_goals exact ⟨⟨_, rfl⟩, HE.out⟩
  · go_enter Tryz.func176, Tryz.ntmps176
    go_upto_region 1 with fail
    go_region_with (first
      | (go_at_call 178; refine (deeds_any _).mono ?_; rintro e w2 ⟨B, rfl, hD, hb2⟩; have hlk := hD.look 4 HKW.out; rw [dG_4] at hlk; have hlk2 : (Instr.lookup 171 (.map (some B)) (.int .i64 4) true).run Tryz.prog w2 = .ok (.tuple #[.func (.func 183) #[] #[], .bool true]) w2 := hlk; obtain ⟨hbw, y0, y1, y2, y3⟩ := HMM.out w2 hb2; clear hlk))
    all_goals go_wp2_with fail
    all_goals refine (remark_anyB (HIS.out w2 hbw) nm tx A al c (by omega) (HLW.out w2 hbw)).mono ?_
    all_goals rintro e w3 hd
    all_goals have he := HD.out w2 hbw e w3 _ hd (put_remark (bldB ts) ⟨4, nm, attrs, tx⟩ rfl).symm
    all_goals obtain ⟨x, rfl⟩ := he.1
    all_goals have HE := Lib.hid he.2
    all_goals clear he hd
    all_goals go_wp2_with fail
    all_goals go_end0
    all_goals exact ⟨⟨_, rfl⟩, HE.out⟩
  · go_enter Tryz.func176, Tryz.ntmps176
    go_upto_region 1 with fail
    go_region_with (first
      | (go_at_call 178; refine (deeds_any _).mono ?_; rintro e w2 ⟨B, rfl, hD, hb2⟩; have hlk := hD.look kd HKW.out; rw [dG_0 h1 h2 h3 h4] at hlk; have hlk2 : (Instr.lookup 171 (.map (some B)) (.int .i64 kd) true).run Tryz.prog w2 = .ok (.tuple #[.nilFunc, .bool false]) w2 := hlk; obtain ⟨hbw, y0, y1, y2, y3⟩ := HMM.out w2 hb2; clear hlk))
    all_goals have HE := Lib.hid (HD.out w2 hbw (.returned (.tuple #[])) w2 _ ⟨⟨_, rfl⟩, HIS.out w2 hbw, Below.refl _ _⟩ (put_other _ _ h1 h2 h3 h4).symm)
    all_goals clear h1 h2 h3 h4
    all_goals go_wp2_with fail
    all_goals go_end0
    all_goals exact HE.out

/-! ### Open -/
theorem info_strZ : (Tryz.prog.info? 9).map (fun i => (i.zero, i.size, i.bytes)) = some (some (.string ⟨#[]⟩), 1, 16) := by kernel_rfl
def OpRelB (w : World) (names : List ByteArray) (x y : Value) (wr : World) : Prop := ∃ k : Nat, y = .int .i64 k ∧ k ≤ names.length ∧ wr.ownsRow w.heap.size 9 1 x k ((names.take k).map Value.string) ∧ Below w.heap.size w wr
set_option maxRecDepth 100000 in
theorem fs_one {lo : Nat} {Q : Nat → Prop} {w : World} {R0 : List Rp} {vk0 : Value} : ∀ {fs : List Fm} {P : Nat → Prop} {inn : List Nat}, FsAt lo Q w R0 vk0 P inn fs → ∀ f ∈ fs, P f.g ∧ w.heap[f.g]? = some (.cells (fmBlk f) 166 (0, 0))
  | [], P, inn, _, f, hf => by cases hf
  | g :: fs, P, inn, ⟨h1, h2, _, _, _, h6⟩, f, hf => by
    rcases List.mem_cons.1 hf with rfl | hf
    · exact ⟨h1, h2⟩
    · have := fs_one h6 f hf
      exact ⟨this.1.1, this.2⟩

end Go.Proofs.YthmnnalamaponaaGreat
