/- write.begin, end: their walks, over whatever function is handed over. -/
import Derived.Test.YtenjhfkdbmljnaaOut
import Derived.Test.YtenjhfkdbmljnaaNamD
import Derived.Test.YtenjhfkdbmljnaaEscP
namespace Go.Proofs.Ytenjhfkdbmljnaa
open Go.RowKit
set_option linter.unusedVariables false

def Box (W : World) (n : Nd) (va vk : Value) : World := W.alloc (.cells #[.int .i64 n.kind, .string n.name, va, .string n.text, vk] 29)

theorem attT_eq (a : ByteArray × ByteArray) : attT a = [32] ++ a.1.data.toList ++ [61, 34] ++ escB true a.2.data.toList ++ [34] := by unfold attT; simp
theorem attT_take {l : List (ByteArray × ByteArray)} {k : Nat} {x : ByteArray × ByteArray} (h : l[k]? = some x) : (l.take (k + 1)).flatMap attT = (l.take k).flatMap attT ++ attT x := by
  rw [List.take_add_one, h, List.flatMap_append]
  simp

structure BegAt (Inv : List UInt8 → World → Prop) (b : Nat) (W : World) (bx : Nat) (cs : Array Value) (acc : List UInt8) (n : Nd) (k : Nat) (wr : World) : Prop where
  le : k ≤ n.attrs.length
  inv : Inv (acc ++ [60] ++ n.name.data.toList ++ (n.attrs.take k).flatMap attT) wr
  oth : Oth b W wr
  box : wr.heap[bx]? = some (.cells cs 29 (0, 0))
def BegRel (Inv : List UInt8 → World → Prop) (b : Nat) (W : World) (bx : Nat) (cs : Array Value) (acc : List UInt8) (n : Nd) (x : Value) (wr : World) : Prop :=
  ∃ k : Nat, x = .int .i64 k ∧ BegAt Inv b W bx cs acc n k wr

set_option maxHeartbeats 1000000 in
set_option maxRecDepth 100000 in
theorem begin_any {n0 : Nat} {w0 : World} {g : FuncId} {b M : Nat} {Inv : List UInt8 → World → Prop} (O : Out n0 w0 g b M Inv) (S : Nat → Prop) (hS : ∀ k, S k → k < n0) (n : Nd) (va vk : Value)
    (hat : AttrsAt S w0 n.attrs va) (hvk : ∃ A c, vk = .slice A n.kids.length c) (acc : List UInt8) (W : World) (hI : Inv acc W) (hsz : szN n ≤ 140000) (hM : acc.length + (openE n).length ≤ M) :
    Calls Try.prog 25 #[.agg #[.int .i64 n.kind, .string n.name, va, .string n.text, vk], .func (.func g) #[] #[.pointer (some ⟨b, 0, none⟩)]] W (Told Inv b W (acc ++ openE n)) := by
  obtain ⟨A1, c1, rfl, hc1, hcs⟩ := id hat
  obtain ⟨A2, c2, rfl⟩ := hvk
  have hbx := box_here W #[.int .i64 n.kind, .string n.name, .slice A1 n.attrs.length c1, .string n.text, .slice A2 n.kids.length c2] 29
  have hI0 := O.new _ _ _ hI (below_new W (.cells #[.int .i64 n.kind, .string n.name, .slice A1 n.attrs.length c1, .string n.text, .slice A2 n.kids.length c2] 29))
  have hK0 : Oth b W _ := Oth.below (below_new W (.cells #[.int .i64 n.kind, .string n.name, .slice A1 n.attrs.length c1, .string n.text, .slice A2 n.kids.length c2] 29))
  have hne : W.heap.size ≠ b := by have := O.lt _ _ hI; omega
  have ent := O.ent
  by_cases h1 : n.kind = 1
  · have B1 : (n.kind != 1) = false := by simp [h1]
    have HO := Lib.hid (show openE n = openT n by unfold openE; rw [if_pos h1])
    clear h1
    go_enter Try.func25, Try.ntmps25
    have hop : openT n = [60] ++ n.name.data.toList ++ (n.attrs.flatMap attT) ++ [62] := by unfold openT; simp
    have HOP := Lib.hid hop
    rw [HO.out, hop] at hM
    simp only [List.length_append, List.length_singleton] at hM
    clear hop
    have hnl : n.attrs.length ≤ 14000 := by have := szN_eq n; have := szA_len n.attrs; omega
    go_wp2_with fail
    refine (O.call acc ⟨#[60]⟩ _ hI0 (show acc.length + 1 ≤ M by omega)).mono ?_
    rintro e W1 ⟨rfl, hI1, hK1⟩
    have hb1 := hK1.box hbx hne (by decide)
    have c11 := cell_at hb1 1
    go_wp2_with fail
    refine (O.call _ n.name _ hI1 (by simp only [List.length_append]; show acc.length + 1 + _ ≤ M; omega)).mono ?_
    rintro e W2 ⟨rfl, hI2, hK2⟩
    have hb2 := hK2.box hb1 hne (by decide)
    have c22 := cell_at hb2 2
    have hK02 := (hK0.trans hK1).trans hK2
    have HN := Lib.hid hne
    clear c11 hb1 hK1 hK2 hI0 hI1 hK0 hbx
    go_wp2_with fail
    go_loopw [18] (fun x wr => BegRel Inv b W W.heap.size #[.int .i64 n.kind, .string n.name, .slice A1 n.attrs.length c1, .string n.text, .slice A2 n.kids.length c2] acc n x wr) (fun x _ => n.attrs.length - (intOf x).toNat)
    case atStart => exact ⟨0, rfl, ⟨by omega, by simpa using hI2, hK02, hb2⟩⟩
    case round =>
      obtain ⟨k, rfl, HR⟩ := hrel
      obtain ⟨hk, hIr, hKr, hbr⟩ := HR
      have hne := HN.out
      by_cases hlt : k < n.attrs.length
      · obtain ⟨bb, o, c', hv, _, hSb, hcell⟩ := hat.at_ (by omega)
        injection hv with hA _ hcc
        subst hA
        subst hcc
        obtain ⟨x, hx⟩ : ∃ x, n.attrs[k]? = some x := ⟨_, List.getElem?_eq_getElem hlt⟩
        have hb0 := O.bel _ _ hIr
        have q0 : wr.cell? ⟨bb, o + k * 2, none⟩ = some (.string x.1) := (hb0.cell (p := ⟨bb, o + k * 2, none⟩) (hS bb hSb)).trans (hcell k x hx).1
        have q1 : wr.cell? ⟨bb, o + k * 2 + 1, none⟩ = some (.string x.2) := (hb0.cell (p := ⟨bb, o + k * 2 + 1, none⟩) (hS bb hSb)).trans (hcell k x hx).2
        have hax := box_here wr #[.string x.1, .string x.2] 35
        have hIa := O.new _ _ _ hIr (below_new wr (.cells #[.string x.1, .string x.2] 35))
        have hKa : Oth b wr _ := Oth.below (below_new wr (.cells #[.string x.1, .string x.2] 35))
        have hnea : wr.heap.size ≠ b := by have := O.lt _ _ hIr; omega
        have hba := hKa.box hbr hne (by decide)
        have hxs : x.2.size ≤ 140000 := by
          have h1 := szN_eq n
          have h2 := szA_at hx
          omega
        have HX := Lib.hid hx
        have HSZ := Lib.hid hsz
        have htk : (List.flatMap attT (n.attrs.take (k + 1))).length ≤ (List.flatMap attT n.attrs).length := by
          have h5 := congrArg List.length (congrArg (List.flatMap attT) (List.take_append_drop (k + 1) n.attrs))
          rw [List.flatMap_append, List.length_append] at h5
          omega
        have hal := attT_eq x
        have HAL := Lib.hid hal
        have hall : (attT x).length = 1 + x.1.data.toList.length + 2 + (escB true x.2.data.toList).length + 1 := by rw [hal]; simp only [List.length_append, List.length_cons, List.length_nil]
        have hbase : (acc ++ [60] ++ n.name.data.toList ++ (n.attrs.take k).flatMap attT).length + (attT x).length ≤ M := by
          simp only [List.length_append, List.length_singleton]
          have h6 := attT_take hx
          rw [h6, List.length_append] at htk
          omega
        clear hal hx hcell hsz htk
        generalize hacc : acc ++ [60] ++ n.name.data.toList ++ (n.attrs.take k).flatMap attT = Z at hIr hIa hbase
        have HZ := Lib.hid hacc
        clear hacc hIr
        go_wp2_with fail
        refine (O.call _ ⟨#[32]⟩ _ hIa (show Z.length + 1 ≤ M by omega)).mono ?_
        rintro e W3 ⟨rfl, hI3, hK3⟩
        have hba3 := hK3.box hba hne (by decide)
        have hax3 := hK3.box hax hnea (by decide)
        have p0 := cell_at hax3 0
        have hKK3 := hKa.trans hK3
        clear hba hax hK3 hIa hKa
        go_wp2_with fail
        refine (O.call _ x.1 _ hI3 (by simp only [List.length_append]; show Z.length + 1 + _ ≤ M; omega)).mono ?_
        rintro e W4 ⟨rfl, hI4, hK4⟩
        have hba4 := hK4.box hba3 hne (by decide)
        have hax4 := hK4.box hax3 hnea (by decide)
        have hKK4 := hKK3.trans hK4
        clear hba3 hax3 hK4 hI3 hKK3 p0
        go_wp2_with fail
        refine (O.call _ ⟨#[61, 34]⟩ _ hI4 (by simp only [List.length_append]; show Z.length + 1 + _ + 2 ≤ M; omega)).mono ?_
        rintro e W5 ⟨rfl, hI5, hK5⟩
        have hba5 := hK5.box hba4 hne (by decide)
        have hax5 := hK5.box hax4 hnea (by decide)
        have p1 := cell_at hax5 1
        have hKK5 := hKK4.trans hK5
        clear hba4 hax4 hK5 hI4 hKK4
        go_wp2_with fail
        refine (escape_wide x.2 true _ (by omega)).mono ?_
        rintro e W6 ⟨rfl, hb6⟩
        have hI6 := O.new _ _ _ hI5 hb6
        have hK6 : Oth b W5 W6 := Oth.below hb6
        have hba6 := hK6.box hba5 hne (by decide)
        have hKK6 := hKK5.trans hK6
        clear hba5 hax5 hK6 hI5 hKK5 p1 hb6
        go_wp2_with fail
        refine (O.call _ ⟨(escB true x.2.data.toList).toArray⟩ _ hI6 (by simp only [List.length_append]; show Z.length + 1 + _ + 2 + (escB true x.2.data.toList).length ≤ M; omega)).mono ?_
        rintro e W7 ⟨rfl, hI7, hK7⟩
        have hba7 := hK7.box hba6 hne (by decide)
        have hKK7 := hKK6.trans hK7
        clear hba6 hK7 hI6 hKK6
        go_wp2_with fail
        refine (O.call _ ⟨#[34]⟩ _ hI7 (by simp only [List.length_append]; show Z.length + 1 + _ + 2 + (escB true x.2.data.toList).length + 1 ≤ M; omega)).mono ?_
        rintro e W8 ⟨rfl, hI8, hK8⟩
        have hba8 := hK8.box hba7 hne (by decide)
        have hKK8 := hKr.trans (hKK7.trans hK8)
        clear hba7 hK8 hI7 hKK7
        go_wp2_with fail
        go_roundw
        case rel =>
          refine ⟨k + 1, by go_num, by omega, ?_, hKK8, hba8⟩
          rw [attT_take HX.out, HAL.out]
          rw [← HZ.out] at hI8
          simpa using hI8
        case measure => simp [intOf]; omega
      · have hkk : k = n.attrs.length := by omega
        subst hkk
        rw [List.take_length] at hIr
        go_wp2_with fail
        refine (O.call _ ⟨#[62]⟩ _ hIr (by simp only [List.length_append]; show acc.length + 1 + _ + _ + 1 ≤ M; omega)).mono ?_
        rintro e W3 ⟨rfl, hI3, hK3⟩
        go_wp2_with fail
        go_end0
        refine ⟨rfl, ?_, hKr.trans hK3⟩
        rw [HO.out, HOP.out]
        simpa using hI3
  · have B1 : (n.kind != 1) = true := by simp [h1]
    have HO := Lib.hid (show openE n = [] by unfold openE; rw [if_neg h1])
    clear h1
    go_enter Try.func25, Try.ntmps25
    go_wp2_with fail
    go_end0
    rw [HO.out, List.append_nil]
    exact ⟨rfl, hI0, hK0⟩

set_option maxHeartbeats 1000000 in
set_option maxRecDepth 100000 in
theorem end_any {n0 : Nat} {w0 : World} {g : FuncId} {b M : Nat} {Inv : List UInt8 → World → Prop} (O : Out n0 w0 g b M Inv) (n : Nd) (va vk : Value)
    (hva : ∃ A c, va = .slice A n.attrs.length c) (hvk : ∃ A c, vk = .slice A n.kids.length c) (acc : List UInt8) (W : World) (hI : Inv acc W) (hM : acc.length + (closeE n).length ≤ M) :
    Calls Try.prog 27 #[.agg #[.int .i64 n.kind, .string n.name, va, .string n.text, vk], .func (.func g) #[] #[.pointer (some ⟨b, 0, none⟩)]] W (Told Inv b W (acc ++ closeE n)) := by
  obtain ⟨A1, c1, rfl⟩ := hva
  obtain ⟨A2, c2, rfl⟩ := hvk
  have hbx := box_here W #[.int .i64 n.kind, .string n.name, .slice A1 n.attrs.length c1, .string n.text, .slice A2 n.kids.length c2] 29
  have hI0 := O.new _ _ _ hI (below_new W (.cells #[.int .i64 n.kind, .string n.name, .slice A1 n.attrs.length c1, .string n.text, .slice A2 n.kids.length c2] 29))
  have hK0 : Oth b W _ := Oth.below (below_new W (.cells #[.int .i64 n.kind, .string n.name, .slice A1 n.attrs.length c1, .string n.text, .slice A2 n.kids.length c2] 29))
  have hne : W.heap.size ≠ b := by have := O.lt _ _ hI; omega
  have ent := O.ent
  have hv := fun w => void_any n.name w
  obtain ⟨v, hvv⟩ : ∃ v, voidB n.name.data.toList = v := ⟨_, rfl⟩
  rw [hvv] at hv
  have HV := Lib.hid hv
  by_cases h1 : n.kind = 1
  · have B1 : (n.kind != 1) = false := by simp [h1]
    cases v with
    | false =>
      have HO := Lib.hid (show closeE n = [60, 47] ++ n.name.data.toList ++ [62] by unfold closeE; rw [if_pos ⟨h1, hvv⟩]; unfold closeT; simp)
      rw [HO.out] at hM
      simp only [List.length_append, List.length_cons, List.length_nil] at hM
      clear h1 hv hvv
      go_enter Try.func27, Try.ntmps27
      go_wp2_with fail
      refine (HV.out _).mono ?_
      rintro e w1 ⟨rfl, rfl⟩
      go_wp2_with fail
      refine (O.call acc ⟨#[60, 47]⟩ _ hI0 (show acc.length + 2 ≤ M by omega)).mono ?_
      rintro e W1 ⟨rfl, hI1, hK1⟩
      have hb1 := hK1.box hbx hne (by decide)
      have c11 := cell_at hb1 1
      go_wp2_with fail
      refine (O.call _ n.name _ hI1 (by simp only [List.length_append]; show acc.length + 2 + _ ≤ M; omega)).mono ?_
      rintro e W2 ⟨rfl, hI2, hK2⟩
      go_wp2_with fail
      refine (O.call _ ⟨#[62]⟩ _ hI2 (by simp only [List.length_append]; show acc.length + 2 + _ + 1 ≤ M; omega)).mono ?_
      rintro e W3 ⟨rfl, hI3, hK3⟩
      go_wp2_with fail
      go_end0
      refine ⟨rfl, ?_, ((hK0.trans hK1).trans hK2).trans hK3⟩
      rw [HO.out]
      simpa using hI3
    | true =>
      have HO := Lib.hid (show closeE n = [] by unfold closeE; rw [if_neg (fun h => by rw [hvv] at h; cases h.2)])
      clear h1 hv hvv
      go_enter Try.func27, Try.ntmps27
      go_wp2_with fail
      refine (HV.out _).mono ?_
      rintro e w1 ⟨rfl, rfl⟩
      go_wp2_with fail
      go_end0
      rw [HO.out, List.append_nil]
      exact ⟨rfl, hI0, hK0⟩
  · have B1 : (n.kind != 1) = true := by simp [h1]
    have HO := Lib.hid (show closeE n = [] by unfold closeE; rw [if_neg (fun h => h1 h.1)])
    clear h1 hv hvv
    go_enter Try.func27, Try.ntmps27
    go_wp2_with fail
    go_end0
    rw [HO.out, List.append_nil]
    exact ⟨rfl, hI0, hK0⟩

end Go.Proofs.Ytenjhfkdbmljnaa
