/- write.element, nodes, plain: their walks, over whatever function is handed over. -/
import Derived.Test.YtenjhfkdbmljnaaWrtB
import Derived.Deep.RegionHeld3
namespace Go.Proofs.Ytenjhfkdbmljnaa
open Go.RowKit
set_option linter.unusedVariables false

/-- nodes tells a list's text. -/
def NodesSaid (l : List Nd) : Prop := ∀ {n0 : Nat} {w0 : World} {g : FuncId} {b M : Nat} {Inv : List UInt8 → World → Prop} (O : Out n0 w0 g b M Inv) (S : Nat → Prop) (hS : ∀ k, S k → k < n0) (raw : Bool) (v : Value)
    (acc : List UInt8) (W : World), Tree S w0 l v → Inv acc W → szL l ≤ 140000 → acc.length + (txtL raw l).length ≤ M →
    Calls Try.prog 22 #[v, .bool raw, .func (.func g) #[] #[.pointer (some ⟨b, 0, none⟩)]] W (Told Inv b W (acc ++ txtL raw l))

theorem txtN_elem {raw : Bool} {n : Nd} (h : n.kind = 1) : txtN raw n = openE n ++ ((if voidB n.name.data.toList = true then [] else txtL (rawB n.name.data.toList) n.kids) ++ closeE n) := by
  rw [txtN_eq, h, if_neg (by decide), if_neg (by decide), if_pos rfl]
  unfold openE closeE
  rw [h, if_pos rfl]
  cases voidB n.name.data.toList <;> simp

set_option maxHeartbeats 2000000 in
set_option maxRecDepth 100000 in
theorem element_any {n0 : Nat} {w0 : World} {g : FuncId} {b M : Nat} {Inv : List UInt8 → World → Prop} (O : Out n0 w0 g b M Inv) (S : Nat → Prop) (hS : ∀ k, S k → k < n0) (n : Nd) (h1 : n.kind = 1) (va vk : Value)
    (hat : AttrsAt S w0 n.attrs va) (hkt : Tree S w0 n.kids vk) (hks : NodesSaid n.kids) (raw : Bool) (acc : List UInt8) (W : World) (hI : Inv acc W) (hsz : szN n ≤ 140000) (hM : acc.length + (txtN raw n).length ≤ M) :
    Calls Try.prog 40 #[.agg #[.int .i64 n.kind, .string n.name, va, .string n.text, vk], .func (.func g) #[] #[.pointer (some ⟨b, 0, none⟩)]] W (Told Inv b W (acc ++ txtN raw n)) := by
  obtain ⟨A1, c1, rfl, hc1, hcs⟩ := id hat
  obtain ⟨A2, c2, rfl, hc2⟩ := hkt.shape
  have hsk : szL n.kids ≤ 140000 := by rw [szN_eq] at hsz; omega
  have hbx := box_here W #[.int .i64 n.kind, .string n.name, .slice A1 n.attrs.length c1, .string n.text, .slice A2 n.kids.length c2] 29
  have hI0 := O.new _ _ _ hI (below_new W (.cells #[.int .i64 n.kind, .string n.name, .slice A1 n.attrs.length c1, .string n.text, .slice A2 n.kids.length c2] 29))
  have hK0 : Oth b W _ := Oth.below (below_new W (.cells #[.int .i64 n.kind, .string n.name, .slice A1 n.attrs.length c1, .string n.text, .slice A2 n.kids.length c2] 29))
  have hne : W.heap.size ≠ b := by have := O.lt _ _ hI; omega
  have hTX := txtN_elem (raw := raw) h1
  rw [hTX] at hM
  simp only [List.length_append] at hM
  have HB := Lib.hid (begin_any O S hS n (.slice A1 n.attrs.length c1) (.slice A2 n.kids.length c2) hat ⟨_, _, rfl⟩ acc _ hI0 hsz (by omega))
  have HE := Lib.hid (fun acc' W' (h : Inv acc' W') (hm : acc'.length + (closeE n).length ≤ M) => end_any O n (.slice A1 n.attrs.length c1) (.slice A2 n.kids.length c2) ⟨_, _, rfl⟩ ⟨_, _, rfl⟩ acc' W' h hm)
  have HTX := Lib.hid hTX
  have HV := Lib.hid (fun w => void_any n.name w)
  have HR := Lib.hid (fun w => raw_any n.name w)
  have HKD := Lib.hid (fun r acc' W' (h : Inv acc' W') (hm : acc'.length + (txtL r n.kids).length ≤ M) => hks O S hS r (.slice A2 n.kids.length c2) acc' W' hkt h hsk hm)
  have hbox : ∀ W1 W2, Oth b W1 W2 → W1.heap[W.heap.size]? = some (.cells #[.int .i64 n.kind, .string n.name, .slice A1 n.attrs.length c1, .string n.text, .slice A2 n.kids.length c2] 29 (0, 0)) →
    W2.heap[W.heap.size]? = some (.cells #[.int .i64 n.kind, .string n.name, .slice A1 n.attrs.length c1, .string n.text, .slice A2 n.kids.length c2] 29 (0, 0)) := fun W1 W2 h hk => h.box hk hne (by decide)
  have HBX := Lib.hid hbox
  have H1 := Lib.hid h1
  clear hTX hkt hks hat hcs hbox h1 hsz hc1
  obtain ⟨v, hvv⟩ : ∃ v, voidB n.name.data.toList = v := ⟨_, rfl⟩
  obtain ⟨r, hrr⟩ : ∃ r, rawB n.name.data.toList = r := ⟨_, rfl⟩
  rw [hvv] at hM HTX HV
  rw [hrr] at hM HTX HR
  clear hvv hrr
  go_enter Try.func40, Try.ntmps40
  go_wp2_with fail
  refine HB.out.mono ?_
  rintro e W1 ⟨rfl, hI1, hK1⟩
  have hb1 := HBX.out _ _ hK1 hbx
  have c1' := cell_at hb1 1
  have c0' := cell_at hb1 0
  have c2' := cell_at hb1 2
  have c3' := cell_at hb1 3
  have c4' := cell_at hb1 4
  cases v with
  | true =>
    rw [if_pos rfl] at hM HTX
    go_wp2_with fail
    refine (HV.out _).mono ?_
    rintro e w2 ⟨rfl, rfl⟩
    go_wp2_with fail
    refine (HE.out _ _ hI1 (by simp only [List.length_append]; simp only [List.length_nil] at hM; omega)).mono ?_
    rintro e W2 ⟨rfl, hI2, hK2⟩
    go_wp2_with fail
    go_end0
    refine ⟨rfl, ?_, (hK0.trans hK1).trans hK2⟩
    rw [HTX.out]
    simpa using hI2
  | false =>
    rw [if_neg (by decide)] at hM HTX
    have hId := O.new _ _ _ hI1 ((Below.refl _ W1).drew)
    have hbd : W1.drew.heap[W.heap.size]? = some (.cells #[.int .i64 n.kind, .string n.name, .slice A1 n.attrs.length c1, .string n.text, .slice A2 n.kids.length c2] 29 (0, 0)) := hb1
    have MKS := Lib.hid (fun (W' : World) (h : W'.heap[W.heap.size]? = some (.cells #[.int .i64 n.kind, .string n.name, .slice A1 n.attrs.length c1, .string n.text, .slice A2 n.kids.length c2] 29 (0, 0))) =>
      (show W'.cell? ⟨W.heap.size, 1, none⟩ = some (.string n.name) ∧ W'.cell? ⟨W.heap.size, 4, none⟩ = some (.slice A2 n.kids.length c2) from ⟨cell_at h 1, cell_at h 4⟩))
    go_wp2_with fail
    refine (HV.out _).mono ?_
    rintro e w2 ⟨rfl, rfl⟩
    go_wp2_with fail
    go_region_held3 (fun W' => W'.cell? ⟨W.heap.size, 1, none⟩ = some (.string n.name) ∧ W'.cell? ⟨W.heap.size, 4, none⟩ = some (.slice A2 n.kids.length c2))
      (first
        | exact MKS.out _ hbd
        | exact MKS.out _ hb1
        | exact MKS.out _ (HBX.out _ _ hK2 hbd))
      (first
        | (go_at_call 50; refine Calls.mono (HR.out _) ?_; rintro e w' ⟨rfl, rfl⟩)
        | (go_at_call 22; refine Calls.mono (HKD.out _ _ _ hId ?_) ?_; (simp only [List.length_append]; omega); rintro e W2 ⟨rfl, hI2, hK2⟩))
    have hKd : Oth b W1 W1.drew := fun k o hk _ _ => hk
    have hb2 := HBX.out _ _ hK2 hbd
    have d0 := cell_at hb2 0
    have d1 := cell_at hb2 1
    have d2 := cell_at hb2 2
    have d3 := cell_at hb2 3
    have d4 := cell_at hb2 4
    go_wp2_with fail
    refine (HE.out _ _ hI2 (by simp only [List.length_append]; omega)).mono ?_
    rintro e W3 ⟨rfl, hI3, hK3⟩
    go_wp2_with fail
    go_end0
    refine ⟨rfl, ?_, (((hK0.trans hK1).trans hKd).trans hK2).trans hK3⟩
    rw [HTX.out]
    simpa using hI3

/-- A text as it stands in a raw element, or outside. -/
def wrT (raw : Bool) (s : ByteArray) : List UInt8 := if raw = true then s.data.toList else escB false s.data.toList

set_option maxHeartbeats 1000000 in
theorem written4_any (s : ByteArray) (raw : Bool) (w : World) (hm : s.size ≤ 200000) :
    Calls Try.prog 41 #[.string s, .bool raw] w fun e w' => ∃ t : ByteArray, e = .returned (.string t) ∧ t.data.toList = wrT raw s ∧ Below w.heap.size w w' := by
  cases raw with
  | true =>
    have HW := Lib.hid (show wrT true s = s.data.toList from rfl)
    go_enter Try.func41, Try.ntmps41
    go_wp2_with fail
    go_ret
    exact ⟨_, rfl, HW.out.symm, Below.refl _ _⟩
  | false =>
    have HW := Lib.hid (show wrT false s = escB false s.data.toList from rfl)
    go_enter Try.func41, Try.ntmps41
    go_wp2_with fail
    refine (escape_wide s false _ hm).mono ?_
    rintro e w1 ⟨rfl, hb⟩
    go_wp2_with fail
    go_ret
    exact ⟨_, rfl, HW.out.symm, hb⟩

theorem txtN_text {raw : Bool} {n : Nd} (h : n.kind = 2) : txtN raw n = wrT raw n.text := by
  rw [txtN_eq, h, if_neg (by decide), if_pos rfl]
  rfl
theorem txtN_remark {raw : Bool} {n : Nd} (h : n.kind = 3) : txtN raw n = [60, 33, 45, 45] ++ n.text.data.toList ++ [45, 45, 62] := by
  rw [txtN_eq, if_pos h]
  simp
theorem txtN_other {raw : Bool} {n : Nd} (h1 : n.kind ≠ 1) (h2 : n.kind ≠ 2) (h3 : n.kind ≠ 3) : txtN raw n = [] := by
  rw [txtN_eq, if_neg h3, if_neg h2, if_neg h1]

structure NdsAt (Inv : List UInt8 → World → Prop) (b : Nat) (W : World) (acc : List UInt8) (raw : Bool) (l : List Nd) (k : Nat) (wr : World) : Prop where
  le : k ≤ l.length
  inv : Inv (acc ++ txtL raw (l.take k)) wr
  oth : Oth b W wr
def NdsRel (Inv : List UInt8 → World → Prop) (b : Nat) (W : World) (acc : List UInt8) (raw : Bool) (l : List Nd) (x : Value) (wr : World) : Prop :=
  ∃ k : Nat, x = .int .i64 k ∧ NdsAt Inv b W acc raw l k wr

set_option maxHeartbeats 4000000 in
set_option maxRecDepth 100000 in
theorem nodes_any (l : List Nd) : NodesSaid l := by
  induction l using nd_ind with
  | h l ih =>
  intro n0 w0 g b M Inv O S hS raw v acc W hT hI hsz hM
  have hlen := szL_len l
  obtain ⟨A, c, rfl, hc⟩ := hT.shape
  have HT := Lib.hid hT
  have HIH := Lib.hid ih
  have ent := O.ent
  clear hT ih
  go_enter Try.func22, Try.ntmps22
  go_wp2_with fail
  go_loopw [10] (fun x wr => NdsRel Inv b W acc raw l x wr) (fun x _ => l.length - (intOf x).toNat)
  case atStart => exact ⟨0, rfl, ⟨by omega, by simpa [txtL_nil] using hI, Lib.OthersKept.refl _ _ _⟩⟩
  case round =>
    obtain ⟨k, rfl, HR⟩ := hrel
    obtain ⟨hk, hIr, hKr⟩ := HR
    by_cases hlt : k < l.length
    · obtain ⟨bb, o, c', hv, _, hSb, hcell⟩ := HT.out.open_ (by omega)
      injection hv with hA _ hcc
      subst hA
      subst hcc
      obtain ⟨m, hm⟩ : ∃ m, l[k]? = some m := ⟨_, List.getElem?_eq_getElem hlt⟩
      obtain ⟨ma, mk, hmt⟩ := hcell k m hm
      have hb := hS bb hSb
      have hbr := O.bel _ _ hIr
      obtain ⟨A3, c3, rfl, _, _⟩ := id hmt.at_
      obtain ⟨A4, c4, rfl, _⟩ := hmt.kids.shape
      have q0 : wr.cell? ⟨bb, o + k * 5, none⟩ = some (.int .i64 m.kind) := (hbr.cell (p := ⟨bb, o + k * 5, none⟩) hb).trans hmt.c0
      have q1 : wr.cell? ⟨bb, o + k * 5 + 1, none⟩ = some (.string m.name) := (hbr.cell (p := ⟨bb, o + k * 5 + 1, none⟩) hb).trans hmt.c1
      have q2 : wr.cell? ⟨bb, o + k * 5 + 2, none⟩ = some (.slice A3 m.attrs.length c3) := (hbr.cell (p := ⟨bb, o + k * 5 + 2, none⟩) hb).trans hmt.c2
      have q3 : wr.cell? ⟨bb, o + k * 5 + 3, none⟩ = some (.string m.text) := (hbr.cell (p := ⟨bb, o + k * 5 + 3, none⟩) hb).trans hmt.c3
      have q4 : wr.cell? ⟨bb, o + k * 5 + 4, none⟩ = some (.slice A4 m.kids.length c4) := (hbr.cell (p := ⟨bb, o + k * 5 + 4, none⟩) hb).trans hmt.c4
      have hsm := szL_at hm
      have hms : m.text.size ≤ 140000 := by rw [szN_eq] at hsm; omega
      have hIa := O.new _ _ _ hIr (below_new wr (.cells #[.int .i64 m.kind, .string m.name, .slice A3 m.attrs.length c3, .string m.text, .slice A4 m.kids.length c4] 29))
      have hKa : Oth b wr _ := Oth.below (below_new wr (.cells #[.int .i64 m.kind, .string m.name, .slice A3 m.attrs.length c3, .string m.text, .slice A4 m.kids.length c4] 29))
      have hbx := box_here wr #[.int .i64 m.kind, .string m.name, .slice A3 m.attrs.length c3, .string m.text, .slice A4 m.kids.length c4] 29
      have hne : wr.heap.size ≠ b := by have := O.lt _ _ hIr; omega
      have htk := txtL_take (raw := raw) hm
      have htl : (acc ++ txtL raw (l.take k)).length + (txtN raw m).length ≤ M := by
        have h5 := congrArg List.length (congrArg (txtL raw) (List.take_append_drop (k + 1) l))
        rw [txtL_append, htk, List.length_append, List.length_append] at h5
        rw [List.length_append]
        omega
      have HTK := Lib.hid htk
      have HM := Lib.hid hm
      have HAT := Lib.hid hmt.at_
      have HKT := Lib.hid hmt.kids
      generalize hacc : acc ++ txtL raw (l.take k) = Z at hIr hIa htl
      have HZ := Lib.hid hacc
      clear hacc hIr hcell hmt htk hm hM
      by_cases h1 : m.kind = 1
      · have B1 : (m.kind == 1) = true := by simp [h1]
        have HEL := Lib.hid (element_any O S hS m h1 (.slice A3 m.attrs.length c3) (.slice A4 m.kids.length c4) HAT.out HKT.out (HIH.out k m HM.out) raw Z _ hIa (by omega) htl)
        clear h1
        go_wp2_with fail
        refine HEL.out.mono ?_
        rintro e W3 ⟨rfl, hI3, hK3⟩
        go_wp2_with fail
        go_roundw
        case rel =>
          refine ⟨k + 1, by go_num, by omega, ?_, hKr.trans (hKa.trans hK3)⟩
          rw [HTK.out, ← List.append_assoc, HZ.out]
          exact hI3
        case measure => simp [intOf]; omega
      by_cases h2 : m.kind = 2
      · have B1 : (m.kind == 1) = false := by simp [h2]
        have B2 : (m.kind == 2) = true := by simp [h2]
        have HTN := Lib.hid (txtN_text (raw := raw) h2)
        rw [HTN.out] at htl
        clear h1 h2
        go_wp2_with fail
        refine (written4_any m.text raw _ (by omega)).mono ?_
        rintro e W3 ⟨t, rfl, ht, hb3⟩
        have hI3 := O.new _ _ _ hIa hb3
        have hK3 : Oth b _ W3 := Oth.below hb3
        have HTT := Lib.hid ht
        have hl : Z.length + t.data.toList.length ≤ M := by rw [ht]; exact htl
        clear ht
        go_wp2_with fail
        refine (O.call _ t _ hI3 hl).mono ?_
        rintro e W4 ⟨rfl, hI4, hK4⟩
        go_wp2_with fail
        go_roundw
        case rel =>
          refine ⟨k + 1, by go_num, by omega, ?_, hKr.trans ((hKa.trans hK3).trans hK4)⟩
          rw [HTK.out, ← List.append_assoc, HZ.out, HTN.out, ← HTT.out]
          exact hI4
        case measure => simp [intOf]; omega
      by_cases h3 : m.kind = 3
      · have B1 : (m.kind == 1) = false := by simp [h3]
        have B2 : (m.kind == 2) = false := by simp [h3]
        have B3 : (m.kind == 3) = true := by simp [h3]
        have HTN := Lib.hid (txtN_remark (raw := raw) h3)
        rw [HTN.out] at htl
        simp only [List.length_append, List.length_cons, List.length_nil] at htl
        clear h1 h2 h3
        go_wp2_with fail
        refine (O.call Z ⟨#[60, 33, 45, 45]⟩ _ hIa (show Z.length + 4 ≤ M by omega)).mono ?_
        rintro e W3 ⟨rfl, hI3, hK3⟩
        have hb3 := hK3.box hbx hne (by decide)
        have d3 := cell_at hb3 3
        go_wp2_with fail
        refine (O.call _ m.text _ hI3 (by simp only [List.length_append]; show Z.length + 4 + _ ≤ M; omega)).mono ?_
        rintro e W4 ⟨rfl, hI4, hK4⟩
        go_wp2_with fail
        refine (O.call _ ⟨#[45, 45, 62]⟩ _ hI4 (by simp only [List.length_append]; show Z.length + 4 + _ + 3 ≤ M; omega)).mono ?_
        rintro e W5 ⟨rfl, hI5, hK5⟩
        go_wp2_with fail
        go_roundw
        case rel =>
          refine ⟨k + 1, by go_num, by omega, ?_, hKr.trans (((hKa.trans hK3).trans hK4).trans hK5)⟩
          rw [HTK.out, ← List.append_assoc, HZ.out, HTN.out]
          simpa using hI5
        case measure => simp [intOf]; omega
      · have B1 : (m.kind == 1) = false := by simp [h1]
        have B2 : (m.kind == 2) = false := by simp [h2]
        have B3 : (m.kind == 3) = false := by simp [h3]
        have HTN := Lib.hid (txtN_other (raw := raw) h1 h2 h3)
        clear h1 h2 h3
        go_wp2_with fail
        go_roundw
        case rel =>
          refine ⟨k + 1, by go_num, by omega, ?_, hKr.trans hKa⟩
          rw [HTK.out, ← List.append_assoc, HZ.out, HTN.out, List.append_nil]
          exact hIa
        case measure => simp [intOf]; omega
    · have hkk : k = l.length := by omega
      subst hkk
      rw [List.take_length] at hIr
      go_wp2_with fail
      go_end0
      exact ⟨rfl, hIr, hKr⟩

end Go.Proofs.Ytenjhfkdbmljnaa
