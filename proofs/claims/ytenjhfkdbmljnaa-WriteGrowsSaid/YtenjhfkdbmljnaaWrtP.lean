/- write.plain: its walk, over whatever function is handed over. -/
import Derived.Test.YtenjhfkdbmljnaaWrtB
namespace Go.Proofs.Ytenjhfkdbmljnaa
open Go.RowKit
set_option linter.unusedVariables false

structure PlnAt (Inv : List UInt8 → World → Prop) (b : Nat) (W : World) (acc : List UInt8) (l : List Nd) (k : Nat) (wr : World) : Prop where
  le : k ≤ l.length
  inv : Inv (acc ++ plainL (l.take k)) wr
  oth : Oth b W wr
def PlnRel (Inv : List UInt8 → World → Prop) (b : Nat) (W : World) (acc : List UInt8) (l : List Nd) (x : Value) (wr : World) : Prop :=
  ∃ k : Nat, x = .int .i64 k ∧ PlnAt Inv b W acc l k wr

set_option maxHeartbeats 4000000 in
set_option maxRecDepth 100000 in
theorem plainW_any (l : List Nd) : ∀ {n0 : Nat} {w0 : World} {g : FuncId} {b M : Nat} {Inv : List UInt8 → World → Prop} (O : Out n0 w0 g b M Inv) (S : Nat → Prop) (hS : ∀ k, S k → k < n0) (v : Value)
    (acc : List UInt8) (W : World), Tree S w0 l v → Inv acc W → szL l ≤ 140000 → acc.length + (plainL l).length ≤ M →
    Calls Try.prog 29 #[v, .func (.func g) #[] #[.pointer (some ⟨b, 0, none⟩)]] W (Told Inv b W (acc ++ plainL l)) := by
  induction l using nd_ind with
  | h l ih =>
  intro n0 w0 g b M Inv O S hS v acc W hT hI hsz hM
  have hlen := szL_len l
  obtain ⟨A, c, rfl, hc⟩ := hT.shape
  have HT := Lib.hid hT
  have HIH := Lib.hid ih
  have ent := O.ent
  clear hT ih
  go_enter Try.func29, Try.ntmps29
  go_wp2_with fail
  go_loopw [8] (fun x wr => PlnRel Inv b W acc l x wr) (fun x _ => l.length - (intOf x).toNat)
  case atStart => exact ⟨0, rfl, ⟨by omega, by simpa [plainL_nil] using hI, Lib.OthersKept.refl _ _ _⟩⟩
  case round =>
    obtain ⟨k, rfl, HR⟩ := hrel
    obtain ⟨hk, hIr, hKr⟩ := HR
    by_cases hlt : k < l.length
    · obtain ⟨bb, o, c', hv, _, hSb, hcell⟩ := HT.out.open_ (by omega)
      injection hv with hA _ hcc
      subst hA
      subst hcc
      obtain ⟨m, hm⟩ : ∃ m, l[k]? = some m := ⟨_, List.getElem?_eq_getElem hlt⟩
      obtain ⟨ma, mk, hmt⟩ := hcell k m hm
      have hb := hS bb hSb
      have hbr := O.bel _ _ hIr
      obtain ⟨A3, c3, rfl, _, _⟩ := id hmt.at_
      obtain ⟨A4, c4, rfl, _⟩ := hmt.kids.shape
      have q0 : wr.cell? ⟨bb, o + k * 5, none⟩ = some (.int .i64 m.kind) := (hbr.cell (p := ⟨bb, o + k * 5, none⟩) hb).trans hmt.c0
      have q1 : wr.cell? ⟨bb, o + k * 5 + 1, none⟩ = some (.string m.name) := (hbr.cell (p := ⟨bb, o + k * 5 + 1, none⟩) hb).trans hmt.c1
      have q2 : wr.cell? ⟨bb, o + k * 5 + 2, none⟩ = some (.slice A3 m.attrs.length c3) := (hbr.cell (p := ⟨bb, o + k * 5 + 2, none⟩) hb).trans hmt.c2
      have q3 : wr.cell? ⟨bb, o + k * 5 + 3, none⟩ = some (.string m.text) := (hbr.cell (p := ⟨bb, o + k * 5 + 3, none⟩) hb).trans hmt.c3
      have q4 : wr.cell? ⟨bb, o + k * 5 + 4, none⟩ = some (.slice A4 m.kids.length c4) := (hbr.cell (p := ⟨bb, o + k * 5 + 4, none⟩) hb).trans hmt.c4
      have hks := szL_kids hm
      have hIa := O.new _ _ _ hIr (below_new wr (.cells #[.int .i64 m.kind, .string m.name, .slice A3 m.attrs.length c3, .string m.text, .slice A4 m.kids.length c4] 29))
      have hKa : Oth b wr _ := Oth.below (below_new wr (.cells #[.int .i64 m.kind, .string m.name, .slice A3 m.attrs.length c3, .string m.text, .slice A4 m.kids.length c4] 29))
      have hbx := box_here wr #[.int .i64 m.kind, .string m.name, .slice A3 m.attrs.length c3, .string m.text, .slice A4 m.kids.length c4] 29
      have hne : wr.heap.size ≠ b := by have := O.lt _ _ hIr; omega
      have htk := plainL_take hm
      have htl : (acc ++ plainL (l.take k)).length + (plainN m).length ≤ M := by
        have h5 := congrArg List.length (congrArg plainL (List.take_append_drop (k + 1) l))
        rw [plainL_append, htk, List.length_append, List.length_append] at h5
        rw [List.length_append]
        omega
      have hpn := plainN_eq m
      have HTK := Lib.hid htk
      have HKD := Lib.hid (fun acc' W' (h : Inv acc' W') (hm' : acc'.length + (plainL m.kids).length ≤ M) => HIH.out k m hm O S hS (.slice A4 m.kids.length c4) acc' W' hmt.kids h (by omega) hm')
      generalize hacc : acc ++ plainL (l.take k) = Z at hIr hIa htl
      have HZ := Lib.hid hacc
      clear hacc hIr hcell hmt htk hM hm hks
      by_cases h2 : m.kind = 2
      · have B2 : (m.kind == 2) = true := by simp [h2]
        rw [if_pos h2] at hpn
        rw [hpn, List.length_append] at htl
        have HPN := Lib.hid hpn
        clear h2 hpn
        go_wp2_with fail
        refine (O.call Z m.text _ hIa (by omega)).mono ?_
        rintro e W3 ⟨rfl, hI3, hK3⟩
        have hb3 := hK3.box hbx hne (by decide)
        have d4 := cell_at hb3 4
        go_wp2_with fail
        refine (HKD.out _ _ hI3 (by simp only [List.length_append]; omega)).mono ?_
        rintro e W4 ⟨rfl, hI4, hK4⟩
        go_wp2_with fail
        go_roundw
        case rel =>
          refine ⟨k + 1, by go_num, by omega, ?_, hKr.trans ((hKa.trans hK3).trans hK4)⟩
          rw [HTK.out, ← List.append_assoc, HZ.out, HPN.out, ← List.append_assoc]
          exact hI4
        case measure => simp [intOf]; omega
      · have B2 : (m.kind == 2) = false := by simp [h2]
        rw [if_neg h2, List.nil_append] at hpn
        rw [hpn] at htl
        have HPN := Lib.hid hpn
        clear h2 hpn
        go_wp2_with fail
        refine (HKD.out _ _ hIa htl).mono ?_
        rintro e W4 ⟨rfl, hI4, hK4⟩
        go_wp2_with fail
        go_roundw
        case rel =>
          refine ⟨k + 1, by go_num, by omega, ?_, hKr.trans (hKa.trans hK4)⟩
          rw [HTK.out, ← List.append_assoc, HZ.out, HPN.out]
          exact hI4
        case measure => simp [intOf]; omega
    · have hkk : k = l.length := by omega
      subst hkk
      rw [List.take_length] at hIr
      go_wp2_with fail
      go_end0
      exact ⟨rfl, hIr, hKr⟩

end Go.Proofs.Ytenjhfkdbmljnaa
