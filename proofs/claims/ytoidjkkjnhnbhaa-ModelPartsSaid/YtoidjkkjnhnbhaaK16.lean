/- Parts of the proof, in build order: MdlP MdlZ Open GlbO OpenT. -/
import Derived.Test.YtoidjkkjnhnbhaaK12
import Derived.Test.YtoidjkkjnhnbhaaK11
import Derived.Test.YtoidjkkjnhnbhaaK15
import Derived.Deep.RegionHeld3
import Derived.Test.YtoidjkkjnhnbhaaK01
import Derived.Test.YtoidjkkjnhnbhaaK06
import Derived.ProofKit
import Derived.OpenShut
import Derived.Test.YtoidjkkjnhnbhaaK07
import Derived.Shelf.Vars
import Derived.Test.YtoidjkkjnhnbhaaK02
import Derived.Test.YtoidjkkjnhnbhaaK08
import Derived.ChangeArms
import Derived.DataReads
import Derived.Deep.Fields

/- Part MdlP. -/
namespace Go.Proofs.Ytoidjkkjnhnbhaa
open Go.RowKit
set_option linter.unusedVariables false

theorem good_stable {l : List Nd} (h : GoodL l) : stableB l = stL l := by
  unfold stableB
  rw [good_may h]
  rfl
theorem side_text : ∀ (l : List Nd) (b : Bool), sides b l → ∀ n ∈ l, n.kind = 2 → n.text.data.toList ≠ []
  | m :: l, b, h, n, hn, h2 => by
    rcases List.mem_cons.1 hn with rfl | hn
    · exact (h.1 h2).1
    · exact side_text l _ h.2 n hn h2
theorem good_alone {l : List Nd} (h : GoodL l) {n : Nd} (hn : n ∈ l) : GoodL [n] := by
  refine .mk _ (fun m hm => ?_) ?_ (fun m hm => ?_)
  · simp only [List.mem_singleton] at hm
    subst hm
    exact h.nodes _ hn
  · exact ⟨fun h2 => ⟨side_text l _ h.sides_ n hn h2, rfl⟩, trivial⟩
  · simp only [List.mem_singleton] at hm
    subst hm
    exact h.kids _ hn

structure MpIn (w1 wx : World) (n : Nd) (j : Nat) (q : Bool) : Prop where
  le : j ≤ n.kids.length
  is : q = (n.kids.take j).all (fitsB n.name.data.toList)
  bel : Below w1.heap.size w1 wx
def MpInRel (w1 : World) (n : Nd) (x y : Value) (wx : World) : Prop := ∃ (j : Nat) (q : Bool), x = .bool q ∧ y = .int .i64 j ∧ MpIn w1 wx n j q
structure MpAt (w1 wx : World) (G : List Nd) (i : Nat) (q : Bool) : Prop where
  le : i ≤ G.length
  is : q = stL (G.take i)
  bel : Below w1.heap.size w1 wx
def MpRel (w1 : World) (G : List Nd) (x y : Value) (wx : World) : Prop := ∃ (i : Nat) (q : Bool), x = .bool q ∧ y = .int .i64 i ∧ MpAt w1 wx G i q

set_option maxHeartbeats 8000000 in
set_option maxRecDepth 100000 in
theorem modelParts_end (HC : ClosesSaid) (HFI : FitsSaid) (HST : StableSaid) (l : List Nd) (v : Value) (w : World) (hT : Tree (· < w.heap.size) w l v) (hF : Fine l) (HGB : Glob w) :
    Calls Try.prog 5 #[v] w fun e w' => e = .returned (.bool true) ∧ Below w.heap.size w w' := by
  have HG := Lib.hid (goodR_any l v w hT hF)
  clear hT hF
  go_enter Try.func5, Try.ntmps5
  go_wp2_with fail
  refine HG.out.mono ?_
  rintro e w1 ⟨G, vG, rfl, hoG, hgG, hzG, hb1⟩
  have htG : Tree (· < w1.heap.size) w1 G vG := (OwnC.tree hoG (Nat.le_refl _)).mono fun b h => h.2
  obtain ⟨A, c, rfl, hc⟩ := htG.shape
  have hlen := szL_len G
  have HT := Lib.hid htG
  have HGG := Lib.hid hgG
  have HB1 := Lib.hid hb1
  have HALL := Lib.hid (fun (W : World) (h : Below w1.heap.size w1 W) => HST G _ _ W (HGB.below (below_after HB1.out h)) (htG.stay h) (fun b hb => Nat.lt_of_lt_of_le hb h.size) (by omega))
  rw [good_stable hgG] at HALL
  clear hoG htG hgG hb1
  go_wp2_with fail
  go_loopw [4, 5, 6, 7, 8, 9, 10] (fun x y _ _ _ _ _ wx => MpRel w1 G x y wx) (fun _ y _ _ _ _ _ _ => G.length - (intOf y).toNat)
  case atStart => exact ⟨0, true, rfl, rfl, by omega, by rw [List.take_zero, stL_nil], Below.refl _ _⟩
  case round =>
    obtain ⟨i, q, rfl, rfl, HR⟩ := hrel
    have hi := HR.le
    have hbr := HR.bel
    have HIS := Lib.hid HR.is
    clear HR
    by_cases hlt : i < G.length
    · obtain ⟨b, o, c', hv, hc', hSb, hcell⟩ := HT.out.open_ (by omega)
      injection hv with hA _ hcc
      subst hA
      subst hcc
      obtain ⟨n, hn⟩ : ∃ n, G[i]? = some n := ⟨_, List.getElem?_eq_getElem hlt⟩
      obtain ⟨na, nk, hat⟩ := hcell i n hn
      have hmem := List.mem_of_getElem? hn
      have hg1 := good_alone HGG.out hmem
      have hgk := HGG.out.kids n hmem
      have hzn := szL_at hn
      have hz1 : szL [n] ≤ 100000 := by rw [szL_cons, szL_nil]; omega
      rw [szN_eq] at hzn
      have hkl := szL_len n.kids
      obtain ⟨A4, c4, rfl, _⟩ := hat.kids.shape
      have HONE := Lib.hid (fun (W : World) (h : Below w1.heap.size w1 W) => HST [n] _ _ W (HGB.below (below_after HB1.out h)) ((HT.out.stay h).one hn) (fun b hb => Nat.lt_of_lt_of_le hb h.size) hz1)
      have HKID := Lib.hid (fun (W : World) (h : Below w1.heap.size w1 W) => HST n.kids _ _ W (HGB.below (below_after HB1.out h)) (hat.kids.stay h) (fun b hb => Nat.lt_of_lt_of_le hb h.size) (by omega))
      rw [good_stable hg1, show stL [n] = stN n by rw [stL_cons, stL_nil, Bool.and_true]] at HONE
      rw [good_stable hgk] at HKID
      have HSN := Lib.hid (stN_eq n)
      have HN := Lib.hid hn
      have HAT := Lib.hid hat
      have s3 : ∀ W, (Instr.slice 27 (.slice (some ⟨b, o, none⟩) G.length c) (some (.int .i64 (i : Int))) (some (.int .i64 ((i : Int) + 1))) none).run Try.prog W = .ok (.slice (some ⟨b, o + i * 5, none⟩) 1 (c - i)) W := fun W => cut_one W b o G.length c i hlt hc'
      have hi4 : i + 1 ≤ G.length := hlt
      have i1 : (i : Int) < (G.length : Int) := by omega
      have i2 : (0 : Int) ≤ (i : Int) := by omega
      obtain ⟨p1, hp1⟩ : ∃ p, stN n = p := ⟨_, rfl⟩
      obtain ⟨p2, hp2⟩ : ∃ p, stL n.kids = p := ⟨_, rfl⟩
      rw [hp1] at HONE HSN
      rw [hp2] at HKID HSN
      have HP1 := Lib.hid hp1
      clear hcell hn hat hmem hg1 hgk hz1 hp1 hp2
      go_wp2_with fail
      refine (HONE.out _ hbr).mono ?_
      rintro e w2 ⟨rfl, hb2⟩
      have hbr2 := below_after hbr hb2
      have q4 : w2.cell? ⟨b, o + i * 5 + 4, none⟩ = some (.slice A4 n.kids.length c4) := (hbr2.cell (p := ⟨b, o + i * 5 + 4, none⟩) hSb).trans HAT.out.c4
      clear hb2
      go_wp2_with fail
      refine (HKID.out _ hbr2).mono ?_
      rintro e w3 ⟨rfl, hb3⟩
      have hbr3 := below_after hbr2 hb3
      clear hb3 q4 s3
      go_wp2_with fail
      obtain ⟨wo, rfl⟩ : ∃ wo : World, wo = wr := ⟨_, rfl⟩
      go_loopw [8, 9, 10] (fun x y _ wx => MpInRel w1 n x y wx) (fun _ y _ _ => n.kids.length - (intOf y).toNat)
      case atStart => exact ⟨0, true, rfl, rfl, by omega, by simp, hbr3⟩
      case round =>
        obtain ⟨j, f, rfl, rfl, HR2⟩ := hrel
        obtain ⟨hj, hfis, hbx⟩ := HR2
        have HFIS := Lib.hid hfis
        have s1 : wr.cell? ⟨b, o + i * 5 + 1, none⟩ = some (.string n.name) := (hbx.cell (p := ⟨b, o + i * 5 + 1, none⟩) hSb).trans HAT.out.c1
        have s4 : wr.cell? ⟨b, o + i * 5 + 4, none⟩ = some (.slice A4 n.kids.length c4) := (hbx.cell (p := ⟨b, o + i * 5 + 4, none⟩) hSb).trans HAT.out.c4
        clear hfis
        by_cases hlj : j < n.kids.length
        · obtain ⟨d, u, c'', hv2, _, hSd, hcell2⟩ := HAT.out.kids.open_ (by omega)
          injection hv2 with hA2 _ hcc2
          subst hA2
          subst hcc2
          obtain ⟨x, hx⟩ : ∃ x, n.kids[j]? = some x := ⟨_, List.getElem?_eq_getElem hlj⟩
          obtain ⟨xa, xk, hxt⟩ := hcell2 j x hx
          obtain ⟨A5, c5, rfl, _, _⟩ := id hxt.at_
          obtain ⟨A6, c6, rfl, _⟩ := hxt.kids.shape
          have p0 : wr.cell? ⟨d, u + j * 5, none⟩ = some (.int .i64 x.kind) := (hbx.cell (p := ⟨d, u + j * 5, none⟩) hSd).trans hxt.c0
          have p1' : wr.cell? ⟨d, u + j * 5 + 1, none⟩ = some (.string x.name) := (hbx.cell (p := ⟨d, u + j * 5 + 1, none⟩) hSd).trans hxt.c1
          have p2' : wr.cell? ⟨d, u + j * 5 + 2, none⟩ = some (.slice A5 x.attrs.length c5) := (hbx.cell (p := ⟨d, u + j * 5 + 2, none⟩) hSd).trans hxt.c2
          have p3 : wr.cell? ⟨d, u + j * 5 + 3, none⟩ = some (.string x.text) := (hbx.cell (p := ⟨d, u + j * 5 + 3, none⟩) hSd).trans hxt.c3
          have p4 : wr.cell? ⟨d, u + j * 5 + 4, none⟩ = some (.slice A6 x.kids.length c6) := (hbx.cell (p := ⟨d, u + j * 5 + 4, none⟩) hSd).trans hxt.c4
          have hzx := szL_at hx
          rw [szN_eq] at hzx
          have i3 : (j : Int) < (n.kids.length : Int) := by omega
          have i4 : (0 : Int) ≤ (j : Int) := by omega
          have hj4 : j + 1 ≤ n.kids.length := hlj
          have HFT := Lib.hid (fun W => HFI n.name x (.slice A5 x.attrs.length c5) (.slice A6 x.kids.length c6) W ⟨_, _, rfl⟩ ⟨_, _, rfl⟩ (by omega) (by omega))
          obtain ⟨ft, hft⟩ : ∃ q, fitsB n.name.data.toList x = q := ⟨_, rfl⟩
          rw [hft] at HFT
          have HNX := Lib.hid (show (n.kids.take (j + 1)).all (fitsB n.name.data.toList) = (f && ft) by rw [all_take hx, ← HFIS.out, hft])
          have SK := Lib.hid (fun (W : World) (h : Below wr.heap.size wr W) => (⟨(h.cell (p := ⟨b, o + i * 5 + 1, none⟩) (Nat.lt_of_lt_of_le hSb hbx.size)).trans s1, (h.cell (p := ⟨b, o + i * 5 + 4, none⟩) (Nat.lt_of_lt_of_le hSb hbx.size)).trans s4,
            (h.cell (p := ⟨d, u + j * 5, none⟩) (Nat.lt_of_lt_of_le hSd hbx.size)).trans p0, (h.cell (p := ⟨d, u + j * 5 + 1, none⟩) (Nat.lt_of_lt_of_le hSd hbx.size)).trans p1', (h.cell (p := ⟨d, u + j * 5 + 2, none⟩) (Nat.lt_of_lt_of_le hSd hbx.size)).trans p2',
            (h.cell (p := ⟨d, u + j * 5 + 3, none⟩) (Nat.lt_of_lt_of_le hSd hbx.size)).trans p3, (h.cell (p := ⟨d, u + j * 5 + 4, none⟩) (Nat.lt_of_lt_of_le hSd hbx.size)).trans p4⟩ :
            W.cell? ⟨b, o + i * 5 + 1, none⟩ = some (.string n.name) ∧ W.cell? ⟨b, o + i * 5 + 4, none⟩ = some (.slice (some ⟨d, u, none⟩) n.kids.length c4) ∧ W.cell? ⟨d, u + j * 5, none⟩ = some (.int .i64 x.kind) ∧ W.cell? ⟨d, u + j * 5 + 1, none⟩ = some (.string x.name) ∧
            W.cell? ⟨d, u + j * 5 + 2, none⟩ = some (.slice A5 x.attrs.length c5) ∧ W.cell? ⟨d, u + j * 5 + 3, none⟩ = some (.string x.text) ∧ W.cell? ⟨d, u + j * 5 + 4, none⟩ = some (.slice A6 x.kids.length c6)))
          clear hcell2 hx hxt hft
          go_wp2_with fail
          go_region_held3 (fun W => W.cell? ⟨b, o + i * 5 + 1, none⟩ = some (.string n.name) ∧ W.cell? ⟨b, o + i * 5 + 4, none⟩ = some (.slice (some ⟨d, u, none⟩) n.kids.length c4) ∧ W.cell? ⟨d, u + j * 5, none⟩ = some (.int .i64 x.kind) ∧ W.cell? ⟨d, u + j * 5 + 1, none⟩ = some (.string x.name) ∧
            W.cell? ⟨d, u + j * 5 + 2, none⟩ = some (.slice A5 x.attrs.length c5) ∧ W.cell? ⟨d, u + j * 5 + 3, none⟩ = some (.string x.text) ∧ W.cell? ⟨d, u + j * 5 + 4, none⟩ = some (.slice A6 x.kids.length c6))
            (first
              | exact SK.out _ (Below.refl _ _)
              | exact SK.out _ (Below.refl _ _).drew
              | exact SK.out _ (below_after (Below.refl _ _).drew hb3)
              | exact SK.out _ hb3)
            (first
              | (go_at_call 16; refine Calls.mono (HFT.out _) ?_; rintro e w4 ⟨rfl, hb3⟩))
          have hbx3 := below_after hbx.drew hb3
          cases f with
          | true =>
            go_wp2_with fail
            go_roundw
            case rel => exact ⟨j + 1, ft, rfl, by go_num, hj4, by rw [HNX.out, Bool.true_and], hbx3⟩
            case measure => simp [intOf]; omega
          | false =>
            go_wp2_with fail
            go_roundw
            case rel => exact ⟨j + 1, false, rfl, by go_num, hj4, by rw [HNX.out, Bool.false_and], hbx3⟩
            case measure => simp [intOf]; omega
        · have hje : j = n.kids.length := by omega
          have hff : n.kids.all (fitsB n.name.data.toList) = f := by have := HFIS.out; rw [hje, List.take_length] at this; exact this.symm
          have hsn := HSN.out
          rw [hff] at hsn
          have HNX := Lib.hid (show stL (G.take (i + 1)) = (q && p1) by rw [stL_all, all_take HN.out, ← stL_all, ← HIS.out, HP1.out])
          clear hff
          cases p1 with
          | true =>
            have h2 : f = true ∧ p2 = true := by
              cases f <;> cases p2 <;> simp at hsn ⊢
            obtain ⟨rfl, rfl⟩ := h2
            clear hsn
            cases q with
            | true =>
              go_wp2_with fail
              go_roundw
              case rel => exact ⟨i + 1, true, rfl, by go_num, hi4, by rw [HNX.out]; rfl, hbx⟩
              case measure => simp [intOf]; omega
            | false =>
              go_wp2_with fail
              go_roundw
              case rel => exact ⟨i + 1, false, rfl, by go_num, hi4, by rw [HNX.out]; rfl, hbx⟩
              case measure => simp [intOf]; omega
          | false =>
            clear hsn
            cases q with
            | true =>
              go_wp2_with fail
              go_roundw
              case rel => exact ⟨i + 1, false, rfl, by go_num, hi4, by rw [HNX.out]; rfl, hbx⟩
              case measure => simp [intOf]; omega
            | false =>
              go_wp2_with fail
              go_roundw
              case rel => exact ⟨i + 1, false, rfl, by go_num, hi4, by rw [HNX.out]; rfl, hbx⟩
              case measure => simp [intOf]; omega
    · have hie : i = G.length := by omega
      have HFIN := Lib.hid (show q = stL G by have := HIS.out; rwa [hie, List.take_length] at this)
      have HALL2 := Lib.hid (HALL.out wr hbr)
      rw [← HFIN.out] at HALL2
      have B1 : (q == q) = true := by cases q <;> rfl
      go_wp2_with fail
      refine HALL2.out.mono ?_
      rintro e w3 ⟨rfl, hb3⟩
      have hbr3 := below_after hbr hb3
      go_wp2_with fail
      refine (lives6_any HC HFI HST _ (HGB.below (below_after HB1.out hbr3))).mono ?_
      rintro e w4 ⟨rfl, hb4⟩
      go_wp2_with fail
      go_ret
      exact ⟨rfl, below_after HB1.out (below_after hbr3 hb4)⟩

end Go.Proofs.Ytoidjkkjnhnbhaa

/- Part MdlZ. -/
namespace Go.Proofs.Ytoidjkkjnhnbhaa
open Go.RowKit
set_option linter.unusedVariables false

theorem modelCloses_whole (a b : ByteArray) (w : World) (ha : a.size ≤ maxLen) (hb : b.size ≤ maxLen) (HGB : Glob w) :
    Calls Try.prog 3 #[.string a, .string b] w fun e w' => e = .returned (.bool true) ∧ Below w.heap.size w w' := modelCloses_end ClosesAll FitsD StableD ClosedD a b w ha hb HGB
theorem modelStable_whole (l : List Nd) (v : Value) (w : World) (hT : Tree (· < w.heap.size) w l v) (hF : Fine l) (HGB : Glob w) :
    Calls Try.prog 4 #[v] w fun e w' => e = .returned (.bool true) ∧ Below w.heap.size w w' := modelStable_end ClosesAll FitsD StableD l v w hT hF HGB
theorem modelParts_whole (l : List Nd) (v : Value) (w : World) (hT : Tree (· < w.heap.size) w l v) (hF : Fine l) (HGB : Glob w) :
    Calls Try.prog 5 #[v] w fun e w' => e = .returned (.bool true) ∧ Below w.heap.size w w' := modelParts_end ClosesAll FitsD StableD l v w hT hF HGB

end Go.Proofs.Ytoidjkkjnhnbhaa

/- Part Open. -/
namespace Go.Proofs.Ytoidjkkjnhnbhaa
open Go.RowKit Go.ChangeShapes Go.WideShapes Go.ChangeAt
set_option linter.unusedVariables false

theorem knob : ownKnob Try.prog.godebug = none := by kernel_rfl
theorem outlay : laidOutB Try.prog = true := by kernel_rfl

theorem cell_lt {w : World} {p : Addr} {v : Value} (h : w.cell? p = some v) : p.block < w.heap.size := by
  rcases Nat.lt_or_ge p.block w.heap.size with hlt | hge
  · exact hlt
  · unfold World.cell? at h
    rw [Array.getElem?_eq_none hge] at h
    cases h

/-- A row of integers as the reading of an argument gives it, in the walks' words. -/
theorem row_sits {w : World} {x : Addr} {k : IntKind} {len : Nat} {zs : List Int} (hl : len ≤ zs.length) (hcell : ∀ i, i < zs.length → w.cell? (x.add i) = some (.int k (zs.getD i 0))) :
    Sits w w.heap.size (some x) ((zs.take len).map (Value.int k)) := by
  intro hp
  rw [List.length_map, List.length_take] at hp
  have hc0 := hcell 0 (by omega)
  have hs : x.spot = none := by simpa [Addr.add] using World.cell?_spot hc0
  obtain ⟨b, o, sp⟩ := x
  simp only at hs
  subst hs
  refine ⟨b, o, rfl, by simpa [Addr.add] using cell_lt hc0, fun j u hu => ?_⟩
  rw [List.getElem?_map, List.getElem?_take] at hu
  split at hu
  · rename_i hj
    have hcj := hcell j (by omega)
    have e : (⟨b, o, none⟩ : Addr).add j = ⟨b, o + j, none⟩ := by
      unfold Addr.add
      split
      · rename_i h0; subst h0; rfl
      · rfl
    rw [e] at hcj
    rw [hcj]
    rw [List.getD_eq_getElem?_getD]
    cases hz : zs[j]? with
    | none => rw [hz] at hu; cases hu
    | some z => rw [hz] at hu; simpa using hu
  · cases hu

theorem open_bytes {H : Type} {enc : TypeId × Value → H} {w : World} {base : Nat} {spare : Nat → Bool} {held : Bool} {fuel len cap : Nat} {a : Option Addr} {x : DataW H × List MemPlace}
    (h : DataW.trod enc Try.prog w base spare held fuel 52 [.slice a len cap] = some x) (hsp : ∀ b, spare b = true) :
    ∃ l : List UInt8, len = l.length ∧ len ≤ cap ∧ len ≤ maxLen ∧ Sits w w.heap.size a (Lib.byteCells l) := by
  rcases open_ints Try.underlying52 Try.underlying5 (by kernel_rfl) h with ⟨hcs, _⟩ | ⟨y, l, c, zs, hcs, _, hl, hm, hz, _, hcell, hwz⟩
  · simp at hcs
    obtain ⟨rfl, rfl, rfl⟩ := hcs
    exact ⟨[], rfl, Nat.le_refl _, by unfold maxLen; omega, Sits.nil _ _ _⟩
  · simp at hcs
    obtain ⟨rfl, rfl, rfl⟩ := hcs
    rw [hsp, if_pos rfl] at hz
    refine ⟨(zs.take len).map fun n => UInt8.ofNat n.toNat, by simp; omega, hl, by omega, ?_⟩
    have hs := row_sits (len := len) (by omega) hcell
    have e : Lib.byteCells ((zs.take len).map fun n => UInt8.ofNat n.toNat) = (zs.take len).map (Value.int .u8) := by
      unfold Lib.byteCells
      rw [List.map_map]
      apply List.map_congr_left
      intro n hn
      have hb := bounds_u8 (hwz n (List.mem_of_mem_take hn))
      simp
      omega
    rw [e]
    exact hs

theorem open_runes {H : Type} {enc : TypeId × Value → H} {w : World} {base : Nat} {spare : Nat → Bool} {held : Bool} {fuel len cap : Nat} {a : Option Addr} {x : DataW H × List MemPlace}
    (h : DataW.trod enc Try.prog w base spare held fuel 65 [.slice a len cap] = some x) (hsp : ∀ b, spare b = true) :
    ∃ l : List Int, len = l.length ∧ len ≤ cap ∧ len ≤ maxLen ∧ (∀ r ∈ l, -2147483648 ≤ r ∧ r ≤ 2147483647) ∧ Sits w w.heap.size a (rcells l) := by
  rcases open_ints Try.underlying65 Try.underlying21 (by kernel_rfl) h with ⟨hcs, _⟩ | ⟨y, l, c, zs, hcs, _, hl, hm, hz, _, hcell, hwz⟩
  · simp at hcs
    obtain ⟨rfl, rfl, rfl⟩ := hcs
    exact ⟨[], rfl, Nat.le_refl _, by unfold maxLen; omega, (fun r hr => by cases hr), Sits.nil _ _ _⟩
  · simp at hcs
    obtain ⟨rfl, rfl, rfl⟩ := hcs
    rw [hsp, if_pos rfl] at hz
    exact ⟨zs.take len, by simp; omega, hl, by omega, fun r hr => bounds_i32 (hwz r (List.mem_of_mem_take hr)), row_sits (len := len) (by omega) hcell⟩

end Go.Proofs.Ytoidjkkjnhnbhaa

/- Part GlbO. -/
namespace Go.Proofs.Ytoidjkkjnhnbhaa
open Go.RowKit
set_option linter.unusedVariables false

theorem glob_of {w : World} (h : w.ShapedOpen Try.prog) : Glob w := Go.Proofs.cell_of_shapedOpen_int (zero := #[.int .i64 0]) (t := 3) h (of_decide_eq_true (by kernel_rfl)) (by kernel_rfl) rfl (by kernel_rfl) (by kernel_rfl) Try.underlying3

end Go.Proofs.Ytoidjkkjnhnbhaa

/- Part OpenT. -/
namespace Go.Proofs.Ytoidjkkjnhnbhaa
open Go.RowKit Go.ChangeShapes Go.WideShapes Go.ChangeAt
set_option linter.unusedVariables false
set_option maxRecDepth 100000

theorem add_none (b o n : Nat) : (⟨b, o, none⟩ : Addr).add n = ⟨b, o + n, none⟩ := by
  unfold Addr.add
  split
  · rename_i h; subst h; rfl
  · rfl

theorem cell_below {w : World} {p : Addr} {v : Value} (h : w.cell? p = some v) : p.block < w.heap.size := by
  rcases Nat.lt_or_ge p.block w.heap.size with hlt | hge
  · exact hlt
  · unfold World.cell? at h
    rw [Array.getElem?_eq_none hge] at h
    cases h

/-- Of each place something: a list of them. -/
theorem list_of {α : Type} {P : Nat → α → Prop} : ∀ (n : Nat), (∀ i, i < n → ∃ x, P i x) → ∃ R : List α, R.length = n ∧ ∀ i x, R[i]? = some x → P i x
  | 0, _ => ⟨[], rfl, by simp⟩
  | n + 1, h => by
    obtain ⟨R, hl, hR⟩ := list_of n fun i hi => h i (by omega)
    obtain ⟨x, hx⟩ := h n (by omega)
    refine ⟨R ++ [x], by simp [hl], fun i y hy => ?_⟩
    by_cases hi : i < R.length
    · rw [List.getElem?_append_left hi] at hy
      exact hR i y hy
    · have hlt := (List.getElem?_eq_some_iff.1 hy).1
      rw [List.length_append, List.length_singleton] at hlt
      have : i = R.length := by omega
      subst this
      simp at hy
      subst hy
      rw [hl]
      exact hx

section
variable {H : Type} {enc : TypeId × Value → H} {w : World} {base : Nat} {spare : Nat → Bool} {held : Bool}

/-- A row's address, if there is a cell at its head. -/
theorem head_addr {a : Addr} {v : Value} (h : w.cell? (a.add 0) = some v) : ∃ b o, a = ⟨b, o, none⟩ ∧ b < w.heap.size := by
  have hs : a.spot = none := by simpa [Addr.add] using World.cell?_spot h
  obtain ⟨b, o, sp⟩ := a
  simp only at hs
  subst hs
  exact ⟨b, o, rfl, by simpa [Addr.add] using cell_below h⟩

theorem open_attrs {fuel : Nat} {v : Value} {x : DataW H × List MemPlace} (h : DataW.trod enc Try.prog w base spare held fuel 30 [v] = some x) :
    ∃ l : List (ByteArray × ByteArray), AttrsAt (· < w.heap.size) w l v ∧ l.length ≤ maxLen ∧ ∀ a ∈ l, a.1.size ≤ maxLen ∧ a.2.size ≤ maxLen := by
  have hC : Try.prog.cellsOf 50 = 2 := by kernel_rfl
  have C9 : Try.prog.cellsOf 9 = 1 := by kernel_rfl
  rcases DataW.trod_slice Try.underlying30 h with ⟨hcs, _⟩ | ⟨a, len, cap, elems, rest, n, _, hcs, _, _, hl, hm, hlen, hel, _, _⟩
  · simp at hcs
    subst hcs
    exact ⟨[], AttrsAt.nil _ _, by unfold maxLen; simp, by simp⟩
  · simp at hcs
    subst hcs
    rw [hC] at hel
    have key : ∀ i, i < len → ∃ y : ByteArray × ByteArray, (∀ k u, [Value.string y.1, .string y.2][k]? = some u → w.cell? ((a.add (i * 2)).add k) = some u) ∧ y.1.size ≤ maxLen ∧ y.2.size ≤ maxLen := by
      intro i hi
      have e := hel i hi
      rw [List.getElem?_eq_getElem (by omega)] at e
      obtain ⟨cs', h1, h2⟩ := Option.bind_eq_some_iff.1 e
      obtain ⟨_, hcl, hat⟩ := World.cells?_some h1
      obtain ⟨xs, n', _, _, _, hxl, hf⟩ := DataW.trod_struct Try.underlying50 h2
      match cs', hcl with
      | [c0, c1], _ =>
        have f0 : DataW.trod enc Try.prog w base spare held n' 9 ((List.drop 0 [c0, c1]).take (Try.prog.cellsOf 9)) = xs[0]? := hf 0 _ rfl
        have f1 : DataW.trod enc Try.prog w base spare held n' 9 ((List.drop 1 [c0, c1]).take (Try.prog.cellsOf 9)) = xs[1]? := hf 1 _ rfl
        rw [C9, List.getElem?_eq_getElem (by rw [hxl]; decide)] at f0
        rw [C9, List.getElem?_eq_getElem (by rw [hxl]; decide)] at f1
        obtain ⟨s0, e0, _, z0⟩ := DataW.trod_string Try.underlying9 f0
        obtain ⟨s1, e1, _, z1⟩ := DataW.trod_string Try.underlying9 f1
        simp at e0 e1
        subst e0
        subst e1
        refine ⟨(s0, s1), fun k u hk => ?_, z0, z1⟩
        have hk2 : k < 2 := (List.getElem?_eq_some_iff.1 hk).1
        rw [hat k hk2]
        exact hk
    obtain ⟨l, hll, hlp⟩ := list_of len key
    refine ⟨l, ⟨some a, cap, by rw [hll], by omega, ?_⟩, by unfold maxLen at *; omega, ?_⟩
    · intro hx
      rw [acells_length] at hx
      obtain ⟨y0, hy0⟩ : ∃ y, l[0]? = some y := ⟨_, List.getElem?_eq_getElem (by omega)⟩
      have h00 := (hlp 0 y0 hy0).1 0 _ rfl
      obtain ⟨b, o, rfl, hb⟩ := head_addr (a := a) (v := .string y0.1) (by simpa [Addr.add] using h00)
      refine ⟨b, o, rfl, hb, fun j u hu => ?_⟩
      have hj := (List.getElem?_eq_some_iff.1 hu).1
      rw [acells_length] at hj
      obtain ⟨y, hy⟩ : ∃ y, l[j / 2]? = some y := ⟨_, List.getElem?_eq_getElem (by omega)⟩
      have hp := (hlp (j / 2) y hy).1
      have ha := acells_at hy
      rcases (show j = j / 2 * 2 ∨ j = j / 2 * 2 + 1 by omega) with hj2 | hj2
      · have := hp 0 _ rfl
        rw [add_none, add_none, Nat.add_assoc, Nat.add_zero, ← hj2] at this
        rw [this]
        rw [← hj2] at ha
        exact (ha.1.symm.trans hu)
      · have := hp 1 _ rfl
        rw [add_none, add_none, Nat.add_assoc, ← hj2] at this
        rw [this]
        rw [← hj2] at ha
        exact (ha.2.symm.trans hu)
    · intro y hy
      obtain ⟨i, hi, he⟩ := List.mem_iff_getElem.1 hy
      exact (hlp i y (by rw [List.getElem?_eq_getElem hi, he])).2

/-- What is told of a node at its place. -/
def NodeP (w : World) (a : Addr) (i : Nat) (r : Rn) : Prop :=
  (∀ k u, (ncells1 r)[k]? = some u → w.cell? ((a.add (i * 5)).add k) = some u) ∧ AttrsAt (· < w.heap.size) w r.n.attrs r.va ∧ Tree (· < w.heap.size) w r.n.kids r.vk ∧ FineN r.n ∧ Fine r.n.kids

theorem nodes_close {a : Addr} {len cap : Nat} {R : List Rn} (hR : R.length = len) (hl : len ≤ cap) (hm : cap ≤ maxLen) (hp : ∀ i r, R[i]? = some r → NodeP w a i r) :
    Tree (· < w.heap.size) w (R.map Rn.n) (.slice (some a) len cap) ∧ Fine (R.map Rn.n) := by
  have hmem : ∀ r ∈ R, ∃ i, NodeP w a i r := by
    intro r hr
    obtain ⟨i, hi, he⟩ := List.mem_iff_getElem.1 hr
    exact ⟨i, hp i r (by rw [List.getElem?_eq_getElem hi, he])⟩
  constructor
  · have := Tree.mk (S := (· < w.heap.size)) (w := w) R (R.map Rn.n) (some a) cap rfl (by rw [List.length_map]; omega) ?_ (fun r hr => (hmem r hr).choose_spec.2.1) (fun r hr => (hmem r hr).choose_spec.2.2.1)
    · rw [List.length_map, hR] at this
      exact this
    · intro hx
      rw [ncells_length] at hx
      obtain ⟨y0, hy0⟩ : ∃ y, R[0]? = some y := ⟨_, List.getElem?_eq_getElem (by omega)⟩
      have h00 := (hp 0 y0 hy0).1 0 _ rfl
      obtain ⟨b, o, rfl, hb⟩ := head_addr (a := a) (v := .int .i64 y0.n.kind) (by simpa [Addr.add] using h00)
      refine ⟨b, o, rfl, hb, fun j u hu => ?_⟩
      have hj := (List.getElem?_eq_some_iff.1 hu).1
      rw [ncells_length] at hj
      obtain ⟨y, hy⟩ : ∃ y, R[j / 5]? = some y := ⟨_, List.getElem?_eq_getElem (by omega)⟩
      have hq := (hp (j / 5) y hy).1
      have ha := ncells_at hy
      rcases (show j = j / 5 * 5 ∨ j = j / 5 * 5 + 1 ∨ j = j / 5 * 5 + 2 ∨ j = j / 5 * 5 + 3 ∨ j = j / 5 * 5 + 4 by omega) with hj2 | hj2 | hj2 | hj2 | hj2
      · have := hq 0 _ rfl
        rw [add_none, add_none, Nat.add_assoc, Nat.add_zero, ← hj2] at this
        rw [this]
        rw [← hj2] at ha
        exact ha.1.symm.trans hu
      · have := hq 1 _ rfl
        rw [add_none, add_none, Nat.add_assoc, ← hj2] at this
        rw [this]
        have ha := ha.2.1
        rw [← hj2] at ha
        exact ha.symm.trans hu
      · have := hq 2 _ rfl
        rw [add_none, add_none, Nat.add_assoc, ← hj2] at this
        rw [this]
        have ha := ha.2.2.1
        rw [← hj2] at ha
        exact ha.symm.trans hu
      · have := hq 3 _ rfl
        rw [add_none, add_none, Nat.add_assoc, ← hj2] at this
        rw [this]
        have ha := ha.2.2.2.1
        rw [← hj2] at ha
        exact ha.symm.trans hu
      · have := hq 4 _ rfl
        rw [add_none, add_none, Nat.add_assoc, ← hj2] at this
        rw [this]
        have ha := ha.2.2.2.2
        rw [← hj2] at ha
        exact ha.symm.trans hu
  · refine .mk _ (by rw [List.length_map]; omega) ?_ ?_
    · intro n hn
      obtain ⟨r, hr, rfl⟩ := List.mem_map.1 hn
      exact (hmem r hr).choose_spec.2.2.2.1
    · intro n hn
      obtain ⟨r, hr, rfl⟩ := List.mem_map.1 hn
      exact (hmem r hr).choose_spec.2.2.2.2

theorem open_nodes : ∀ (F fuel : Nat) (v : Value) (x : DataW H × List MemPlace), fuel ≤ F → DataW.trod enc Try.prog w base spare held fuel 27 [v] = some x →
    ∃ l : List Nd, Tree (· < w.heap.size) w l v ∧ Fine l := by
  intro F
  induction F with
  | zero =>
    intro fuel v x hF h
    obtain rfl : fuel = 0 := by omega
    simp [DataW.trod] at h
  | succ F ih =>
    intro fuel v x hF h
    have hC : Try.prog.cellsOf 32 = 5 := by kernel_rfl
    have C3 : Try.prog.cellsOf 3 = 1 := by kernel_rfl
    have C9 : Try.prog.cellsOf 9 = 1 := by kernel_rfl
    have CA : Try.prog.cellsOf 30 = 1 := by kernel_rfl
    have CN : Try.prog.cellsOf 27 = 1 := by kernel_rfl
    rcases DataW.trod_slice Try.underlying27 h with ⟨hcs, _⟩ | ⟨a, len, cap, elems, rest, n, hfu, hcs, _, _, hl, hm, hlen, hel, _, _⟩
    · simp at hcs
      subst hcs
      exact ⟨[], Tree.nil _ _, .mk [] (by simp) (by simp) (by simp)⟩
    · simp at hcs
      subst hcs
      rw [hC] at hel
      have key : ∀ i, i < len → ∃ r : Rn, NodeP w a i r := by
        intro i hi
        have e := hel i hi
        rw [List.getElem?_eq_getElem (by omega)] at e
        obtain ⟨cs', h1, h2⟩ := Option.bind_eq_some_iff.1 e
        obtain ⟨_, hcl, hat⟩ := World.cells?_some h1
        obtain ⟨xs, n', hn', _, _, hxl, hf⟩ := DataW.trod_struct Try.underlying32 h2
        match cs', hcl with
        | [c0, c1, c2, c3, c4], _ =>
          have f0 : DataW.trod enc Try.prog w base spare held n' 3 ((List.drop 0 [c0, c1, c2, c3, c4]).take (Try.prog.cellsOf 3)) = xs[0]? := hf 0 _ rfl
          have f1 : DataW.trod enc Try.prog w base spare held n' 9 ((List.drop 1 [c0, c1, c2, c3, c4]).take (Try.prog.cellsOf 9)) = xs[1]? := hf 1 _ rfl
          have f2 : DataW.trod enc Try.prog w base spare held n' 30 ((List.drop 2 [c0, c1, c2, c3, c4]).take (Try.prog.cellsOf 30)) = xs[2]? := hf 2 _ rfl
          have f3 : DataW.trod enc Try.prog w base spare held n' 9 ((List.drop 3 [c0, c1, c2, c3, c4]).take (Try.prog.cellsOf 9)) = xs[3]? := hf 3 _ rfl
          have f4 : DataW.trod enc Try.prog w base spare held n' 27 ((List.drop 4 [c0, c1, c2, c3, c4]).take (Try.prog.cellsOf 27)) = xs[4]? := hf 4 _ rfl
          rw [C3, List.getElem?_eq_getElem (by rw [hxl]; decide)] at f0
          rw [C9, List.getElem?_eq_getElem (by rw [hxl]; decide)] at f1
          rw [CA, List.getElem?_eq_getElem (by rw [hxl]; decide)] at f2
          rw [C9, List.getElem?_eq_getElem (by rw [hxl]; decide)] at f3
          rw [CN, List.getElem?_eq_getElem (by rw [hxl]; decide)] at f4
          obtain ⟨k0, e0, _, z0⟩ := DataW.trod_int Try.underlying3 f0
          obtain ⟨s1, e1, _, z1⟩ := DataW.trod_string Try.underlying9 f1
          obtain ⟨s3, e3, _, z3⟩ := DataW.trod_string Try.underlying9 f3
          obtain ⟨la, ha1, ha2, ha3⟩ := open_attrs (v := c2) f2
          obtain ⟨lk, hk1, hk2⟩ := ih n' c4 _ (by omega) f4
          simp at e0 e1 e3
          subst e0
          subst e1
          subst e3
          refine ⟨⟨.mk k0 s1 la s3 lk, c2, c4⟩, fun k u hk => ?_, ha1, hk1, ⟨z1, z3, ha2, ha3⟩, hk2⟩
          have hk5 : k < 5 := (List.getElem?_eq_some_iff.1 hk).1
          rw [hat k hk5]
          exact hk
      obtain ⟨R, hR, hp⟩ := list_of len key
      exact ⟨R.map Rn.n, nodes_close hR hl hm hp⟩

end

end Go.Proofs.Ytoidjkkjnhnbhaa
