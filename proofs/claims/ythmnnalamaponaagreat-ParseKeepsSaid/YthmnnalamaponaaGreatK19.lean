/- Parts of the proof, in build order: Written EscP WrtB WrtN WrtP Sink Wrt Tell. -/
import Derived.Test.YthmnnalamaponaaGreatK01
import Derived.Test.YthmnnalamaponaaGreatK02
import Derived.Test.YthmnnalamaponaaGreatK05
import Derived.Test.YthmnnalamaponaaGreatK13
import Derived.Lib.Strings
import Derived.Test.YthmnnalamaponaaGreatK06
import Derived.Test.YthmnnalamaponaaGreatK18
import Derived.Deep.RegionHeld3
import Derived.Test.YthmnnalamaponaaGreatK15
import Derived.RangeFuncNested
import Derived.RangeFuncBound
import Derived.RangeFuncCalls
import Derived.RangeFuncLeaves
import Derived.Shelf.Abstract
import Derived.Shelf.RegionOpen
import Derived.WalkKit
import Derived.OwnWalkIn
import Derived.TacticsInMore
import Derived.LoopNIn
import Derived.LoopIn

/- Part Written. -/
namespace Go.Proofs.YthmnnalamaponaaGreat
open Go.RowKit
set_option linter.unusedVariables false

set_option maxHeartbeats 400000 in
theorem written_ref (u : UInt8) (v : Bool) (w : World) :
    Calls Tryz.prog 94 #[.int .u8 u.toNat, .bool v] w fun e w' => e = .returned (.string ⟨(wrB v u).toArray⟩) ∧ w = w' := by
  by_cases a : u = 38
  · subst a
    have hd := Lib.hid (show wrB v 38 = [38, 97, 109, 112, 59] from rfl)
    go_enter Tryz.func94, Tryz.ntmps94
    go_wp2
    go_ret
    rw [hd.out]
    exact ⟨rfl, rfl⟩
  by_cases b : u = 60
  · subst b
    have hd := Lib.hid (show wrB v 60 = [38, 108, 116, 59] from rfl)
    go_enter Tryz.func94, Tryz.ntmps94
    go_wp2
    go_ret
    rw [hd.out]
    exact ⟨rfl, rfl⟩
  by_cases c : u = 62
  · subst c
    have hd := Lib.hid (show wrB v 62 = [38, 103, 116, 59] from rfl)
    go_enter Tryz.func94, Tryz.ntmps94
    go_wp2
    go_ret
    rw [hd.out]
    exact ⟨rfl, rfl⟩
  by_cases d : u = 34
  · subst d
    cases v with
    | true =>
      have hd := Lib.hid (show wrB true 34 = [38, 113, 117, 111, 116, 59] from rfl)
      go_enter Tryz.func94, Tryz.ntmps94
      go_wp2
      go_ret
      rw [hd.out]
      exact ⟨rfl, rfl⟩
    | false =>
      have hd := Lib.hid (show wrB false 34 = [] from rfl)
      go_enter Tryz.func94, Tryz.ntmps94
      go_wp2
      go_ret
      rw [hd.out]
      exact ⟨rfl, rfl⟩
  have hn : ∀ n : Nat, n < 256 → u ≠ n.toUInt8 → ((u.toNat : Int) == (n : Int)) = false := by
    intro n h1 h2
    rw [beq_eq_false_iff_ne]
    intro e
    apply h2
    apply UInt8.toNat_inj.1
    simp
    omega
  have A : ((u.toNat : Int) == 38) = false := hn 38 (by omega) a
  have B : ((u.toNat : Int) == 60) = false := hn 60 (by omega) b
  have C : ((u.toNat : Int) == 62) = false := hn 62 (by omega) c
  have D : ((u.toNat : Int) == 34) = false := hn 34 (by omega) d
  have hd := Lib.hid (show wrB v u = [] by unfold wrB; rw [if_neg a, if_neg b, if_neg c, if_neg (fun h => d h.1)])
  clear hn a b c d
  go_enter Tryz.func94, Tryz.ntmps94
  go_wp2
  go_ret
  rw [hd.out]
  exact ⟨rfl, rfl⟩

end Go.Proofs.YthmnnalamaponaaGreat

/- Part EscP. -/
namespace Go.Proofs.YthmnnalamaponaaGreat
open Go.RowKit
set_option linter.unusedVariables false

structure EscAt (w wr : World) (s : ByteArray) (l acc : List UInt8) (v : Bool) (f k : Nat) : Prop where
  fk : f ≤ k
  le : k ≤ l.length
  is : escB v (l.take k) = acc ++ (l.drop f).take (k - f)
  len : acc.length ≤ 6 * k
  room : acc.length + (k - f) ≤ 6 * k
  bu : Lib.IsBuilderF 92 5 w.heap.size w.heap.size (Lib.byteCells acc) wr
  bel : Below w.heap.size w wr

theorem mid_snoc {l : List UInt8} {f k : Nat} {c : UInt8} (h : l[k]? = some c) (hf : f ≤ k) : (l.drop f).take (k + 1 - f) = (l.drop f).take (k - f) ++ [c] := by
  rw [show k + 1 - f = (k - f) + 1 by omega]
  apply take_snoc'
  rw [List.getElem?_drop, show f + (k - f) = k by omega]
  exact h

set_option maxHeartbeats 4000000 in
set_option maxRecDepth 100000 in
theorem escape_wide (s : ByteArray) (v : Bool) (w : World) (hm : s.size ≤ 200000) :
    Calls Tryz.prog 90 #[.string s, .bool v] w fun e w' => e = .returned (.string ⟨(escB v s.data.toList).toArray⟩) ∧ Below w.heap.size w w' := by
  obtain ⟨l, hl⟩ : ∃ l, s.data.toList = l := ⟨_, rfl⟩
  have hsz : s.size = l.length := by rw [← hl]; simp
  have HSL := Lib.hid hl
  have HSZ := Lib.hid hsz
  have hll : l.length ≤ 200000 := by omega
  have hat : ∀ k, (h : k < s.size) → l[k]? = some s[k] := by
    intro k h
    rw [← hl, List.getElem?_eq_getElem (by simpa using h)]
    rw [at_data s k h]
  have HAT := Lib.hid hat
  rw [hl]
  clear hl hsz hat
  go_enter Tryz.func90, Tryz.ntmps90
  go_wp2_with fail
  refine (Tryz.Builder_Grow_fresh w.heap.size w.heap.size s.size _ (Nat.le_refl _) (heap_alloc_new w _) (by simp) (by omega)).mono ?_
  rintro e w2 ⟨rfl, hbu, hb2⟩
  have hB2 : Below w.heap.size w w2 := ((Below.refl _ w).alloc (Nat.le_refl _) _).trans hb2
  have hI2 : Lib.IsBuilderF 92 5 w.heap.size w.heap.size (Lib.byteCells []) w2 := Lib.IsBuilderF.of (Or.inr hbu)
  clear hbu hb2
  go_wp2_with fail
  go_loopw [6, 14] (fun x y wr => ∃ (f k : Nat) (acc : List UInt8), x = .int .i64 f ∧ y = .int .i64 k ∧ EscAt w wr s l acc v f k) (fun _ y _ => s.size - (intOf y).toNat)
  case atStart => exact ⟨0, 0, [], rfl, rfl, by omega, by omega, by simp [escB_nil], by simp, by simp, hI2, hB2⟩
  case round =>
    obtain ⟨f, k, acc, rfl, rfl, HR⟩ := hrel
    have hfk := HR.fk
    have hle := HR.le
    have hlen := HR.len
    by_cases hlt : k < s.size
    · have hgk := HAT.out k hlt
      obtain ⟨c, hc⟩ : ∃ c, s[k] = c := ⟨_, rfl⟩
      rw [hc] at hgk
      have HG := Lib.hid hgk
      have HC := Lib.hid hc
      have hwl := wrB_len v c
      obtain ⟨q, hq⟩ : ∃ q, (wrB v c).isEmpty = q := ⟨_, rfl⟩
      have hmid : (s.extract f k).data.toList = (l.drop f).take (k - f) := by rw [mid_extract, HSL.out]
      have HM := Lib.hid hmid
      have hmz : (s.extract f k).size = k - f := by rw [ByteArray.size_extract]; omega
      have HMZ := Lib.hid hmz
      clear hgk hc hmid hmz
      cases q with
      | true =>
        have hnil : wrB v c = [] := List.isEmpty_iff.1 hq
        have HW := Lib.hid (wrC_same hnil)
        clear hnil
        go_wp2_with fail
        refine (written_ref _ v _).mono ?_
        rw [HC.out]
        rintro e w3 ⟨rfl, rfl⟩
        go_wp2_with fail
        go_roundw
        case rel =>
          refine ⟨f, k + 1, acc, rfl, by go_num, by omega, by have := HSZ.out; omega, ?_, by omega, by have := HR.room; omega, HR.bu, HR.bel⟩
          rw [take_snoc' HG.out, escB_append, HR.is, escB_cons, escB_nil, HW.out, mid_snoc HG.out hfk, List.append_assoc, List.append_nil]
        case measure => simp [intOf]; omega
      | false =>
        have hne : wrB v c ≠ [] := fun e => by rw [e] at hq; cases hq
        have HW := Lib.hid (wrC_other hne)
        clear hne
        have hfi : (0 : Int) ≤ (f : Int) ∧ (f : Int) ≤ (k : Int) ∧ (k : Int) ≤ (s.size : Int) := by omega
        obtain ⟨hf1, hf2, hf3⟩ := hfi
        go_wp2_with fail
        refine (written_ref _ v _).mono ?_
        rw [HC.out]
        rintro e w3 ⟨rfl, rfl⟩
        go_wp2_with fail
        refine (Tryz.Builder_WriteString_k w.heap.size w.heap.size _ (s.extract f k) _ HR.bu (by rw [Lib.byteCells_length, HMZ.out]; omega) HR.bel.size).mono ?_
        rintro e w4 ⟨rfl, h4, b4, _⟩
        have hB4 := HR.bel.trans b4
        rw [Lib.strCells_eq, HM.out, ← Lib.byteCells_append] at h4
        have H4 := Lib.hid h4
        clear h4 b4
        go_wp2_with fail
        refine (Tryz.Builder_WriteString_k w.heap.size w.heap.size _ ⟨(wrB v c).toArray⟩ _ (Or.inr H4.out) (by rw [Lib.byteCells_length, List.length_append, List.length_take]; show _ + (wrB v c).length ≤ _; omega) hB4.size).mono ?_
        rintro e w5 ⟨rfl, h5, b5, _⟩
        have hB5 := hB4.trans b5
        rw [Lib.strCells_eq, ← Lib.byteCells_append] at h5
        have H5 := Lib.hid h5
        clear h5 b5
        go_wp2_with fail
        go_roundw
        case rel =>
          refine ⟨k + 1, k + 1, acc ++ (l.drop f).take (k - f) ++ wrB v c, by go_num, by go_num, by omega, by have := HSZ.out; omega, ?_, ?_, ?_, Or.inr H5.out, hB5⟩
          · rw [take_snoc' HG.out, escB_append, HR.is, escB_cons, escB_nil, HW.out]
            simp
          · rw [List.length_append, List.length_append, List.length_take]
            have := HR.room
            omega
          · rw [List.length_append, List.length_append, List.length_take]
            have := HR.room
            omega
        case measure => simp [intOf]; omega
    · have hk : k = s.size := by have := HSZ.out; omega
      have hmid : (s.extract f s.size).data.toList = l.drop f := by rw [drop_extract, HSL.out]
      have hmz : (s.extract f s.size).size ≤ 200000 := by rw [ByteArray.size_extract]; omega
      have HM := Lib.hid hmid
      have HF := Lib.hid (show escB v l = acc ++ l.drop f by
        have := HR.is
        rw [List.take_of_length_le (by have := HSZ.out; omega), List.take_of_length_le (by rw [List.length_drop]; have := HSZ.out; omega)] at this
        exact this)
      have hf1 : (f : Int) ≤ (s.size : Int) := by omega
      clear hmid hk
      go_wp2_with fail
      refine (Tryz.Builder_WriteString_k w.heap.size w.heap.size _ (s.extract f s.size) _ HR.bu (by rw [Lib.byteCells_length]; omega) HR.bel.size).mono ?_
      rintro e w4 ⟨rfl, h4, b4, _⟩
      have hB4 := HR.bel.trans b4
      rw [Lib.strCells_eq, HM.out, ← Lib.byteCells_append] at h4
      go_wp2_with fail
      refine (Tryz.Builder_String_any_k w.heap.size w.heap.size _ _ (Or.inr h4) hB4.size).mono ?_
      rintro e w5 ⟨rfl, _, b5, _⟩
      have hB5 := hB4.trans b5
      go_wp2_with fail
      go_ret
      rw [HF.out]
      exact ⟨rfl, hB5⟩

theorem escape_any (s : ByteArray) (v : Bool) (w : World) (hm : s.size ≤ 100000) :
    Calls Tryz.prog 90 #[.string s, .bool v] w fun e w' => e = .returned (.string ⟨(escB v s.data.toList).toArray⟩) ∧ Below w.heap.size w w' := escape_wide s v w (by omega)

end Go.Proofs.YthmnnalamaponaaGreat

/- Part WrtB. -/
namespace Go.Proofs.YthmnnalamaponaaGreat
open Go.RowKit
set_option linter.unusedVariables false

def Box (W : World) (n : Nd) (va vk : Value) : World := W.alloc (.cells #[.int .i64 n.kind, .string n.name, va, .string n.text, vk] 35)

theorem attT_eq (a : ByteArray × ByteArray) : attT a = [32] ++ a.1.data.toList ++ [61, 34] ++ escB true a.2.data.toList ++ [34] := by unfold attT; simp
theorem attT_take {l : List (ByteArray × ByteArray)} {k : Nat} {x : ByteArray × ByteArray} (h : l[k]? = some x) : (l.take (k + 1)).flatMap attT = (l.take k).flatMap attT ++ attT x := by
  rw [List.take_add_one, h, List.flatMap_append]
  simp

structure BegAt (Inv : List UInt8 → World → Prop) (b : Nat) (W : World) (bx : Nat) (cs : Array Value) (acc : List UInt8) (n : Nd) (k : Nat) (wr : World) : Prop where
  le : k ≤ n.attrs.length
  inv : Inv (acc ++ [60] ++ n.name.data.toList ++ (n.attrs.take k).flatMap attT) wr
  oth : Oth b W wr
  box : wr.heap[bx]? = some (.cells cs 35 (0, 0))
def BegRel (Inv : List UInt8 → World → Prop) (b : Nat) (W : World) (bx : Nat) (cs : Array Value) (acc : List UInt8) (n : Nd) (x : Value) (wr : World) : Prop :=
  ∃ k : Nat, x = .int .i64 k ∧ BegAt Inv b W bx cs acc n k wr

set_option maxHeartbeats 1000000 in
set_option maxRecDepth 100000 in
theorem begin_any {n0 : Nat} {w0 : World} {g : FuncId} {b M : Nat} {Inv : List UInt8 → World → Prop} (O : Out n0 w0 g b M Inv) (S : Nat → Prop) (hS : ∀ k, S k → k < n0) (n : Nd) (va vk : Value)
    (hat : AttrsAt S w0 n.attrs va) (hvk : ∃ A c, vk = .slice A n.kids.length c) (acc : List UInt8) (W : World) (hI : Inv acc W) (hsz : szN n ≤ 140000) (hM : acc.length + (openE n).length ≤ M) :
    Calls Tryz.prog 86 #[.agg #[.int .i64 n.kind, .string n.name, va, .string n.text, vk], .func (.func g) #[] #[.pointer (some ⟨b, 0, none⟩)]] W (Told Inv b W (acc ++ openE n)) := by
  obtain ⟨A1, c1, rfl, hc1, hcs⟩ := id hat
  obtain ⟨A2, c2, rfl⟩ := hvk
  have hbx := box_here W #[.int .i64 n.kind, .string n.name, .slice A1 n.attrs.length c1, .string n.text, .slice A2 n.kids.length c2] 35
  have hI0 := O.new _ _ _ hI (below_new W (.cells #[.int .i64 n.kind, .string n.name, .slice A1 n.attrs.length c1, .string n.text, .slice A2 n.kids.length c2] 35))
  have hK0 : Oth b W _ := Oth.below (below_new W (.cells #[.int .i64 n.kind, .string n.name, .slice A1 n.attrs.length c1, .string n.text, .slice A2 n.kids.length c2] 35))
  have hne : W.heap.size ≠ b := by have := O.lt _ _ hI; omega
  have ent := O.ent
  by_cases h1 : n.kind = 1
  · have B1 : (n.kind != 1) = false := by simp [h1]
    have HO := Lib.hid (show openE n = openT n by unfold openE; rw [if_pos h1])
    clear h1
    go_enter Tryz.func86, Tryz.ntmps86
    have hop : openT n = [60] ++ n.name.data.toList ++ (n.attrs.flatMap attT) ++ [62] := by unfold openT; simp
    have HOP := Lib.hid hop
    rw [HO.out, hop] at hM
    simp only [List.length_append, List.length_singleton] at hM
    clear hop
    have hnl : n.attrs.length ≤ 14000 := by have := szN_eq n; have := szA_len n.attrs; omega
    go_wp2_with fail
    refine (O.call acc ⟨#[60]⟩ _ hI0 (show acc.length + 1 ≤ M by omega)).mono ?_
    rintro e W1 ⟨rfl, hI1, hK1⟩
    have hb1 := hK1.box hbx hne (by decide)
    have c11 := cell_at hb1 1
    go_wp2_with fail
    refine (O.call _ n.name _ hI1 (by simp only [List.length_append]; show acc.length + 1 + _ ≤ M; omega)).mono ?_
    rintro e W2 ⟨rfl, hI2, hK2⟩
    have hb2 := hK2.box hb1 hne (by decide)
    have c22 := cell_at hb2 2
    have hK02 := (hK0.trans hK1).trans hK2
    have HN := Lib.hid hne
    clear c11 hb1 hK1 hK2 hI0 hI1 hK0 hbx
    go_wp2_with fail
    go_loopw [18] (fun x wr => BegRel Inv b W W.heap.size #[.int .i64 n.kind, .string n.name, .slice A1 n.attrs.length c1, .string n.text, .slice A2 n.kids.length c2] acc n x wr) (fun x _ => n.attrs.length - (intOf x).toNat)
    case atStart => exact ⟨0, rfl, ⟨by omega, by simpa using hI2, hK02, hb2⟩⟩
    case round =>
      obtain ⟨k, rfl, HR⟩ := hrel
      obtain ⟨hk, hIr, hKr, hbr⟩ := HR
      have hne := HN.out
      by_cases hlt : k < n.attrs.length
      · obtain ⟨bb, o, c', hv, _, hSb, hcell⟩ := hat.at_ (by omega)
        injection hv with hA _ hcc
        subst hA
        subst hcc
        obtain ⟨x, hx⟩ : ∃ x, n.attrs[k]? = some x := ⟨_, List.getElem?_eq_getElem hlt⟩
        have hb0 := O.bel _ _ hIr
        have q0 : wr.cell? ⟨bb, o + k * 2, none⟩ = some (.string x.1) := (hb0.cell (p := ⟨bb, o + k * 2, none⟩) (hS bb hSb)).trans (hcell k x hx).1
        have q1 : wr.cell? ⟨bb, o + k * 2 + 1, none⟩ = some (.string x.2) := (hb0.cell (p := ⟨bb, o + k * 2 + 1, none⟩) (hS bb hSb)).trans (hcell k x hx).2
        have hax := box_here wr #[.string x.1, .string x.2] 39
        have hIa := O.new _ _ _ hIr (below_new wr (.cells #[.string x.1, .string x.2] 39))
        have hKa : Oth b wr _ := Oth.below (below_new wr (.cells #[.string x.1, .string x.2] 39))
        have hnea : wr.heap.size ≠ b := by have := O.lt _ _ hIr; omega
        have hba := hKa.box hbr hne (by decide)
        have hxs : x.2.size ≤ 140000 := by
          have h1 := szN_eq n
          have h2 := szA_at hx
          omega
        have HX := Lib.hid hx
        have HSZ := Lib.hid hsz
        have htk : (List.flatMap attT (n.attrs.take (k + 1))).length ≤ (List.flatMap attT n.attrs).length := by
          have h5 := congrArg List.length (congrArg (List.flatMap attT) (List.take_append_drop (k + 1) n.attrs))
          rw [List.flatMap_append, List.length_append] at h5
          omega
        have hal := attT_eq x
        have HAL := Lib.hid hal
        have hall : (attT x).length = 1 + x.1.data.toList.length + 2 + (escB true x.2.data.toList).length + 1 := by rw [hal]; simp only [List.length_append, List.length_cons, List.length_nil]
        have hbase : (acc ++ [60] ++ n.name.data.toList ++ (n.attrs.take k).flatMap attT).length + (attT x).length ≤ M := by
          simp only [List.length_append, List.length_singleton]
          have h6 := attT_take hx
          rw [h6, List.length_append] at htk
          omega
        clear hal hx hcell hsz htk
        generalize hacc : acc ++ [60] ++ n.name.data.toList ++ (n.attrs.take k).flatMap attT = Z at hIr hIa hbase
        have HZ := Lib.hid hacc
        clear hacc hIr
        go_wp2_with fail
        refine (O.call _ ⟨#[32]⟩ _ hIa (show Z.length + 1 ≤ M by omega)).mono ?_
        rintro e W3 ⟨rfl, hI3, hK3⟩
        have hba3 := hK3.box hba hne (by decide)
        have hax3 := hK3.box hax hnea (by decide)
        have p0 := cell_at hax3 0
        have hKK3 := hKa.trans hK3
        clear hba hax hK3 hIa hKa
        go_wp2_with fail
        refine (O.call _ x.1 _ hI3 (by simp only [List.length_append]; show Z.length + 1 + _ ≤ M; omega)).mono ?_
        rintro e W4 ⟨rfl, hI4, hK4⟩
        have hba4 := hK4.box hba3 hne (by decide)
        have hax4 := hK4.box hax3 hnea (by decide)
        have hKK4 := hKK3.trans hK4
        clear hba3 hax3 hK4 hI3 hKK3 p0
        go_wp2_with fail
        refine (O.call _ ⟨#[61, 34]⟩ _ hI4 (by simp only [List.length_append]; show Z.length + 1 + _ + 2 ≤ M; omega)).mono ?_
        rintro e W5 ⟨rfl, hI5, hK5⟩
        have hba5 := hK5.box hba4 hne (by decide)
        have hax5 := hK5.box hax4 hnea (by decide)
        have p1 := cell_at hax5 1
        have hKK5 := hKK4.trans hK5
        clear hba4 hax4 hK5 hI4 hKK4
        go_wp2_with fail
        refine (escape_wide x.2 true _ (by omega)).mono ?_
        rintro e W6 ⟨rfl, hb6⟩
        have hI6 := O.new _ _ _ hI5 hb6
        have hK6 : Oth b W5 W6 := Oth.below hb6
        have hba6 := hK6.box hba5 hne (by decide)
        have hKK6 := hKK5.trans hK6
        clear hba5 hax5 hK6 hI5 hKK5 p1 hb6
        go_wp2_with fail
        refine (O.call _ ⟨(escB true x.2.data.toList).toArray⟩ _ hI6 (by simp only [List.length_append]; show Z.length + 1 + _ + 2 + (escB true x.2.data.toList).length ≤ M; omega)).mono ?_
        rintro e W7 ⟨rfl, hI7, hK7⟩
        have hba7 := hK7.box hba6 hne (by decide)
        have hKK7 := hKK6.trans hK7
        clear hba6 hK7 hI6 hKK6
        go_wp2_with fail
        refine (O.call _ ⟨#[34]⟩ _ hI7 (by simp only [List.length_append]; show Z.length + 1 + _ + 2 + (escB true x.2.data.toList).length + 1 ≤ M; omega)).mono ?_
        rintro e W8 ⟨rfl, hI8, hK8⟩
        have hba8 := hK8.box hba7 hne (by decide)
        have hKK8 := hKr.trans (hKK7.trans hK8)
        clear hba7 hK8 hI7 hKK7
        go_wp2_with fail
        go_roundw
        case rel =>
          refine ⟨k + 1, by go_num, by omega, ?_, hKK8, hba8⟩
          rw [attT_take HX.out, HAL.out]
          rw [← HZ.out] at hI8
          simpa using hI8
        case measure => simp [intOf]; omega
      · have hkk : k = n.attrs.length := by omega
        subst hkk
        rw [List.take_length] at hIr
        go_wp2_with fail
        refine (O.call _ ⟨#[62]⟩ _ hIr (by simp only [List.length_append]; show acc.length + 1 + _ + _ + 1 ≤ M; omega)).mono ?_
        rintro e W3 ⟨rfl, hI3, hK3⟩
        go_wp2_with fail
        go_end0
        refine ⟨rfl, ?_, hKr.trans hK3⟩
        rw [HO.out, HOP.out]
        simpa using hI3
  · have B1 : (n.kind != 1) = true := by simp [h1]
    have HO := Lib.hid (show openE n = [] by unfold openE; rw [if_neg h1])
    clear h1
    go_enter Tryz.func86, Tryz.ntmps86
    go_wp2_with fail
    go_end0
    rw [HO.out, List.append_nil]
    exact ⟨rfl, hI0, hK0⟩

set_option maxHeartbeats 1000000 in
set_option maxRecDepth 100000 in
theorem end_any {n0 : Nat} {w0 : World} {g : FuncId} {b M : Nat} {Inv : List UInt8 → World → Prop} (O : Out n0 w0 g b M Inv) (n : Nd) (va vk : Value)
    (hva : ∃ A c, va = .slice A n.attrs.length c) (hvk : ∃ A c, vk = .slice A n.kids.length c) (acc : List UInt8) (W : World) (hI : Inv acc W) (hM : acc.length + (closeE n).length ≤ M) :
    Calls Tryz.prog 89 #[.agg #[.int .i64 n.kind, .string n.name, va, .string n.text, vk], .func (.func g) #[] #[.pointer (some ⟨b, 0, none⟩)]] W (Told Inv b W (acc ++ closeE n)) := by
  obtain ⟨A1, c1, rfl⟩ := hva
  obtain ⟨A2, c2, rfl⟩ := hvk
  have hbx := box_here W #[.int .i64 n.kind, .string n.name, .slice A1 n.attrs.length c1, .string n.text, .slice A2 n.kids.length c2] 35
  have hI0 := O.new _ _ _ hI (below_new W (.cells #[.int .i64 n.kind, .string n.name, .slice A1 n.attrs.length c1, .string n.text, .slice A2 n.kids.length c2] 35))
  have hK0 : Oth b W _ := Oth.below (below_new W (.cells #[.int .i64 n.kind, .string n.name, .slice A1 n.attrs.length c1, .string n.text, .slice A2 n.kids.length c2] 35))
  have hne : W.heap.size ≠ b := by have := O.lt _ _ hI; omega
  have ent := O.ent
  have hv := fun w => void_any n.name w
  obtain ⟨v, hvv⟩ : ∃ v, voidB n.name.data.toList = v := ⟨_, rfl⟩
  rw [hvv] at hv
  have HV := Lib.hid hv
  by_cases h1 : n.kind = 1
  · have B1 : (n.kind != 1) = false := by simp [h1]
    cases v with
    | false =>
      have HO := Lib.hid (show closeE n = [60, 47] ++ n.name.data.toList ++ [62] by unfold closeE; rw [if_pos ⟨h1, hvv⟩]; unfold closeT; simp)
      rw [HO.out] at hM
      simp only [List.length_append, List.length_cons, List.length_nil] at hM
      clear h1 hv hvv
      go_enter Tryz.func89, Tryz.ntmps89
      go_wp2_with fail
      refine (HV.out _).mono ?_
      rintro e w1 ⟨rfl, rfl⟩
      go_wp2_with fail
      refine (O.call acc ⟨#[60, 47]⟩ _ hI0 (show acc.length + 2 ≤ M by omega)).mono ?_
      rintro e W1 ⟨rfl, hI1, hK1⟩
      have hb1 := hK1.box hbx hne (by decide)
      have c11 := cell_at hb1 1
      go_wp2_with fail
      refine (O.call _ n.name _ hI1 (by simp only [List.length_append]; show acc.length + 2 + _ ≤ M; omega)).mono ?_
      rintro e W2 ⟨rfl, hI2, hK2⟩
      go_wp2_with fail
      refine (O.call _ ⟨#[62]⟩ _ hI2 (by simp only [List.length_append]; show acc.length + 2 + _ + 1 ≤ M; omega)).mono ?_
      rintro e W3 ⟨rfl, hI3, hK3⟩
      go_wp2_with fail
      go_end0
      refine ⟨rfl, ?_, ((hK0.trans hK1).trans hK2).trans hK3⟩
      rw [HO.out]
      simpa using hI3
    | true =>
      have HO := Lib.hid (show closeE n = [] by unfold closeE; rw [if_neg (fun h => by rw [hvv] at h; cases h.2)])
      clear h1 hv hvv
      go_enter Tryz.func89, Tryz.ntmps89
      go_wp2_with fail
      refine (HV.out _).mono ?_
      rintro e w1 ⟨rfl, rfl⟩
      go_wp2_with fail
      go_end0
      rw [HO.out, List.append_nil]
      exact ⟨rfl, hI0, hK0⟩
  · have B1 : (n.kind != 1) = true := by simp [h1]
    have HO := Lib.hid (show closeE n = [] by unfold closeE; rw [if_neg (fun h => h1 h.1)])
    clear h1 hv hvv
    go_enter Tryz.func89, Tryz.ntmps89
    go_wp2_with fail
    go_end0
    rw [HO.out, List.append_nil]
    exact ⟨rfl, hI0, hK0⟩

end Go.Proofs.YthmnnalamaponaaGreat

/- Part WrtN. -/
namespace Go.Proofs.YthmnnalamaponaaGreat
open Go.RowKit
set_option linter.unusedVariables false

/-- nodes tells a list's text. -/
def NodesSaid (l : List Nd) : Prop := ∀ {n0 : Nat} {w0 : World} {g : FuncId} {b M : Nat} {Inv : List UInt8 → World → Prop} (O : Out n0 w0 g b M Inv) (S : Nat → Prop) (hS : ∀ k, S k → k < n0) (raw : Bool) (v : Value)
    (acc : List UInt8) (W : World), Tree S w0 l v → Inv acc W → szL l ≤ 140000 → acc.length + (txtL raw l).length ≤ M →
    Calls Tryz.prog 72 #[v, .bool raw, .func (.func g) #[] #[.pointer (some ⟨b, 0, none⟩)]] W (Told Inv b W (acc ++ txtL raw l))

theorem txtN_elem {raw : Bool} {n : Nd} (h : n.kind = 1) : txtN raw n = openE n ++ ((if voidB n.name.data.toList = true then [] else txtL (rawB n.name.data.toList) n.kids) ++ closeE n) := by
  rw [txtN_eq, h, if_neg (by decide), if_neg (by decide), if_pos rfl]
  unfold openE closeE
  rw [h, if_pos rfl]
  cases voidB n.name.data.toList <;> simp

set_option maxHeartbeats 2000000 in
set_option maxRecDepth 100000 in
theorem element_any {n0 : Nat} {w0 : World} {g : FuncId} {b M : Nat} {Inv : List UInt8 → World → Prop} (O : Out n0 w0 g b M Inv) (S : Nat → Prop) (hS : ∀ k, S k → k < n0) (n : Nd) (h1 : n.kind = 1) (va vk : Value)
    (hat : AttrsAt S w0 n.attrs va) (hkt : Tree S w0 n.kids vk) (hks : NodesSaid n.kids) (raw : Bool) (acc : List UInt8) (W : World) (hI : Inv acc W) (hsz : szN n ≤ 140000) (hM : acc.length + (txtN raw n).length ≤ M) :
    Calls Tryz.prog 81 #[.agg #[.int .i64 n.kind, .string n.name, va, .string n.text, vk], .func (.func g) #[] #[.pointer (some ⟨b, 0, none⟩)]] W (Told Inv b W (acc ++ txtN raw n)) := by
  obtain ⟨A1, c1, rfl, hc1, hcs⟩ := id hat
  obtain ⟨A2, c2, rfl, hc2⟩ := hkt.shape
  have hsk : szL n.kids ≤ 140000 := by rw [szN_eq] at hsz; omega
  have hbx := box_here W #[.int .i64 n.kind, .string n.name, .slice A1 n.attrs.length c1, .string n.text, .slice A2 n.kids.length c2] 35
  have hI0 := O.new _ _ _ hI (below_new W (.cells #[.int .i64 n.kind, .string n.name, .slice A1 n.attrs.length c1, .string n.text, .slice A2 n.kids.length c2] 35))
  have hK0 : Oth b W _ := Oth.below (below_new W (.cells #[.int .i64 n.kind, .string n.name, .slice A1 n.attrs.length c1, .string n.text, .slice A2 n.kids.length c2] 35))
  have hne : W.heap.size ≠ b := by have := O.lt _ _ hI; omega
  have hTX := txtN_elem (raw := raw) h1
  rw [hTX] at hM
  simp only [List.length_append] at hM
  have HB := Lib.hid (begin_any O S hS n (.slice A1 n.attrs.length c1) (.slice A2 n.kids.length c2) hat ⟨_, _, rfl⟩ acc _ hI0 hsz (by omega))
  have HE := Lib.hid (fun acc' W' (h : Inv acc' W') (hm : acc'.length + (closeE n).length ≤ M) => end_any O n (.slice A1 n.attrs.length c1) (.slice A2 n.kids.length c2) ⟨_, _, rfl⟩ ⟨_, _, rfl⟩ acc' W' h hm)
  have HTX := Lib.hid hTX
  have HV := Lib.hid (fun w => void_any n.name w)
  have HR := Lib.hid (fun w => raw_any n.name w)
  have HKD := Lib.hid (fun r acc' W' (h : Inv acc' W') (hm : acc'.length + (txtL r n.kids).length ≤ M) => hks O S hS r (.slice A2 n.kids.length c2) acc' W' hkt h hsk hm)
  have hbox : ∀ W1 W2, Oth b W1 W2 → W1.heap[W.heap.size]? = some (.cells #[.int .i64 n.kind, .string n.name, .slice A1 n.attrs.length c1, .string n.text, .slice A2 n.kids.length c2] 35 (0, 0)) →
    W2.heap[W.heap.size]? = some (.cells #[.int .i64 n.kind, .string n.name, .slice A1 n.attrs.length c1, .string n.text, .slice A2 n.kids.length c2] 35 (0, 0)) := fun W1 W2 h hk => h.box hk hne (by decide)
  have HBX := Lib.hid hbox
  have H1 := Lib.hid h1
  clear hTX hkt hks hat hcs hbox h1 hsz hc1
  obtain ⟨v, hvv⟩ : ∃ v, voidB n.name.data.toList = v := ⟨_, rfl⟩
  obtain ⟨r, hrr⟩ : ∃ r, rawB n.name.data.toList = r := ⟨_, rfl⟩
  rw [hvv] at hM HTX HV
  rw [hrr] at hM HTX HR
  clear hvv hrr
  go_enter Tryz.func81, Tryz.ntmps81
  go_wp2_with fail
  refine HB.out.mono ?_
  rintro e W1 ⟨rfl, hI1, hK1⟩
  have hb1 := HBX.out _ _ hK1 hbx
  have c1' := cell_at hb1 1
  have c0' := cell_at hb1 0
  have c2' := cell_at hb1 2
  have c3' := cell_at hb1 3
  have c4' := cell_at hb1 4
  cases v with
  | true =>
    rw [if_pos rfl] at hM HTX
    go_wp2_with fail
    refine (HV.out _).mono ?_
    rintro e w2 ⟨rfl, rfl⟩
    go_wp2_with fail
    refine (HE.out _ _ hI1 (by simp only [List.length_append]; simp only [List.length_nil] at hM; omega)).mono ?_
    rintro e W2 ⟨rfl, hI2, hK2⟩
    go_wp2_with fail
    go_end0
    refine ⟨rfl, ?_, (hK0.trans hK1).trans hK2⟩
    rw [HTX.out]
    simpa using hI2
  | false =>
    rw [if_neg (by decide)] at hM HTX
    have hId := O.new _ _ _ hI1 ((Below.refl _ W1).drew)
    have hbd : W1.drew.heap[W.heap.size]? = some (.cells #[.int .i64 n.kind, .string n.name, .slice A1 n.attrs.length c1, .string n.text, .slice A2 n.kids.length c2] 35 (0, 0)) := hb1
    have MKS := Lib.hid (fun (W' : World) (h : W'.heap[W.heap.size]? = some (.cells #[.int .i64 n.kind, .string n.name, .slice A1 n.attrs.length c1, .string n.text, .slice A2 n.kids.length c2] 35 (0, 0))) =>
      (show W'.cell? ⟨W.heap.size, 1, none⟩ = some (.string n.name) ∧ W'.cell? ⟨W.heap.size, 4, none⟩ = some (.slice A2 n.kids.length c2) from ⟨cell_at h 1, cell_at h 4⟩))
    go_wp2_with fail
    refine (HV.out _).mono ?_
    rintro e w2 ⟨rfl, rfl⟩
    go_wp2_with fail
    go_region_held3 (fun W' => W'.cell? ⟨W.heap.size, 1, none⟩ = some (.string n.name) ∧ W'.cell? ⟨W.heap.size, 4, none⟩ = some (.slice A2 n.kids.length c2))
      (first
        | exact MKS.out _ hbd
        | exact MKS.out _ hb1
        | exact MKS.out _ (HBX.out _ _ hK2 hbd))
      (first
        | (go_at_call 88; refine Calls.mono (HR.out _) ?_; rintro e w' ⟨rfl, rfl⟩)
        | (go_at_call 72; refine Calls.mono (HKD.out _ _ _ hId ?_) ?_; (simp only [List.length_append]; omega); rintro e W2 ⟨rfl, hI2, hK2⟩))
    have hKd : Oth b W1 W1.drew := fun k o hk _ _ => hk
    have hb2 := HBX.out _ _ hK2 hbd
    have d0 := cell_at hb2 0
    have d1 := cell_at hb2 1
    have d2 := cell_at hb2 2
    have d3 := cell_at hb2 3
    have d4 := cell_at hb2 4
    go_wp2_with fail
    refine (HE.out _ _ hI2 (by simp only [List.length_append]; omega)).mono ?_
    rintro e W3 ⟨rfl, hI3, hK3⟩
    go_wp2_with fail
    go_end0
    refine ⟨rfl, ?_, (((hK0.trans hK1).trans hKd).trans hK2).trans hK3⟩
    rw [HTX.out]
    simpa using hI3

/-- A text as it stands in a raw element, or outside. -/
def wrT (raw : Bool) (s : ByteArray) : List UInt8 := if raw = true then s.data.toList else escB false s.data.toList

set_option maxHeartbeats 1000000 in
theorem written4_any (s : ByteArray) (raw : Bool) (w : World) (hm : s.size ≤ 200000) :
    Calls Tryz.prog 82 #[.string s, .bool raw] w fun e w' => ∃ t : ByteArray, e = .returned (.string t) ∧ t.data.toList = wrT raw s ∧ Below w.heap.size w w' := by
  cases raw with
  | true =>
    have HW := Lib.hid (show wrT true s = s.data.toList from rfl)
    go_enter Tryz.func82, Tryz.ntmps82
    go_wp2_with fail
    go_ret
    exact ⟨_, rfl, HW.out.symm, Below.refl _ _⟩
  | false =>
    have HW := Lib.hid (show wrT false s = escB false s.data.toList from rfl)
    go_enter Tryz.func82, Tryz.ntmps82
    go_wp2_with fail
    refine (escape_wide s false _ hm).mono ?_
    rintro e w1 ⟨rfl, hb⟩
    go_wp2_with fail
    go_ret
    exact ⟨_, rfl, HW.out.symm, hb⟩

theorem txtN_text {raw : Bool} {n : Nd} (h : n.kind = 2) : txtN raw n = wrT raw n.text := by
  rw [txtN_eq, h, if_neg (by decide), if_pos rfl]
  rfl
theorem txtN_remark {raw : Bool} {n : Nd} (h : n.kind = 3) : txtN raw n = [60, 33, 45, 45] ++ n.text.data.toList ++ [45, 45, 62] := by
  rw [txtN_eq, if_pos h]
  simp
theorem txtN_other {raw : Bool} {n : Nd} (h1 : n.kind ≠ 1) (h2 : n.kind ≠ 2) (h3 : n.kind ≠ 3) : txtN raw n = [] := by
  rw [txtN_eq, if_neg h3, if_neg h2, if_neg h1]

structure NdsAt (Inv : List UInt8 → World → Prop) (b : Nat) (W : World) (acc : List UInt8) (raw : Bool) (l : List Nd) (k : Nat) (wr : World) : Prop where
  le : k ≤ l.length
  inv : Inv (acc ++ txtL raw (l.take k)) wr
  oth : Oth b W wr
def NdsRel (Inv : List UInt8 → World → Prop) (b : Nat) (W : World) (acc : List UInt8) (raw : Bool) (l : List Nd) (x : Value) (wr : World) : Prop :=
  ∃ k : Nat, x = .int .i64 k ∧ NdsAt Inv b W acc raw l k wr

set_option maxHeartbeats 4000000 in
set_option maxRecDepth 100000 in
theorem nodes_any (l : List Nd) : NodesSaid l := by
  induction l using nd_ind with
  | h l ih =>
  intro n0 w0 g b M Inv O S hS raw v acc W hT hI hsz hM
  have hlen := szL_len l
  obtain ⟨A, c, rfl, hc⟩ := hT.shape
  have HT := Lib.hid hT
  have HIH := Lib.hid ih
  have ent := O.ent
  clear hT ih
  go_enter Tryz.func72, Tryz.ntmps72
  go_wp2_with fail
  go_loopw [10] (fun x wr => NdsRel Inv b W acc raw l x wr) (fun x _ => l.length - (intOf x).toNat)
  case atStart => exact ⟨0, rfl, ⟨by omega, by simpa [txtL_nil] using hI, Lib.OthersKept.refl _ _ _⟩⟩
  case round =>
    obtain ⟨k, rfl, HR⟩ := hrel
    obtain ⟨hk, hIr, hKr⟩ := HR
    by_cases hlt : k < l.length
    · obtain ⟨bb, o, c', hv, _, hSb, hcell⟩ := HT.out.open_ (by omega)
      injection hv with hA _ hcc
      subst hA
      subst hcc
      obtain ⟨m, hm⟩ : ∃ m, l[k]? = some m := ⟨_, List.getElem?_eq_getElem hlt⟩
      obtain ⟨ma, mk, hmt⟩ := hcell k m hm
      have hb := hS bb hSb
      have hbr := O.bel _ _ hIr
      obtain ⟨A3, c3, rfl, _, _⟩ := id hmt.at_
      obtain ⟨A4, c4, rfl, _⟩ := hmt.kids.shape
      have q0 : wr.cell? ⟨bb, o + k * 5, none⟩ = some (.int .i64 m.kind) := (hbr.cell (p := ⟨bb, o + k * 5, none⟩) hb).trans hmt.c0
      have q1 : wr.cell? ⟨bb, o + k * 5 + 1, none⟩ = some (.string m.name) := (hbr.cell (p := ⟨bb, o + k * 5 + 1, none⟩) hb).trans hmt.c1
      have q2 : wr.cell? ⟨bb, o + k * 5 + 2, none⟩ = some (.slice A3 m.attrs.length c3) := (hbr.cell (p := ⟨bb, o + k * 5 + 2, none⟩) hb).trans hmt.c2
      have q3 : wr.cell? ⟨bb, o + k * 5 + 3, none⟩ = some (.string m.text) := (hbr.cell (p := ⟨bb, o + k * 5 + 3, none⟩) hb).trans hmt.c3
      have q4 : wr.cell? ⟨bb, o + k * 5 + 4, none⟩ = some (.slice A4 m.kids.length c4) := (hbr.cell (p := ⟨bb, o + k * 5 + 4, none⟩) hb).trans hmt.c4
      have hsm := szL_at hm
      have hms : m.text.size ≤ 140000 := by rw [szN_eq] at hsm; omega
      have hIa := O.new _ _ _ hIr (below_new wr (.cells #[.int .i64 m.kind, .string m.name, .slice A3 m.attrs.length c3, .string m.text, .slice A4 m.kids.length c4] 35))
      have hKa : Oth b wr _ := Oth.below (below_new wr (.cells #[.int .i64 m.kind, .string m.name, .slice A3 m.attrs.length c3, .string m.text, .slice A4 m.kids.length c4] 35))
      have hbx := box_here wr #[.int .i64 m.kind, .string m.name, .slice A3 m.attrs.length c3, .string m.text, .slice A4 m.kids.length c4] 35
      have hne : wr.heap.size ≠ b := by have := O.lt _ _ hIr; omega
      have htk := txtL_take (raw := raw) hm
      have htl : (acc ++ txtL raw (l.take k)).length + (txtN raw m).length ≤ M := by
        have h5 := congrArg List.length (congrArg (txtL raw) (List.take_append_drop (k + 1) l))
        rw [txtL_append, htk, List.length_append, List.length_append] at h5
        rw [List.length_append]
        omega
      have HTK := Lib.hid htk
      have HM := Lib.hid hm
      have HAT := Lib.hid hmt.at_
      have HKT := Lib.hid hmt.kids
      generalize hacc : acc ++ txtL raw (l.take k) = Z at hIr hIa htl
      have HZ := Lib.hid hacc
      clear hacc hIr hcell hmt htk hm hM
      by_cases h1 : m.kind = 1
      · have B1 : (m.kind == 1) = true := by simp [h1]
        have HEL := Lib.hid (element_any O S hS m h1 (.slice A3 m.attrs.length c3) (.slice A4 m.kids.length c4) HAT.out HKT.out (HIH.out k m HM.out) raw Z _ hIa (by omega) htl)
        clear h1
        go_wp2_with fail
        refine HEL.out.mono ?_
        rintro e W3 ⟨rfl, hI3, hK3⟩
        go_wp2_with fail
        go_roundw
        case rel =>
          refine ⟨k + 1, by go_num, by omega, ?_, hKr.trans (hKa.trans hK3)⟩
          rw [HTK.out, ← List.append_assoc, HZ.out]
          exact hI3
        case measure => simp [intOf]; omega
      by_cases h2 : m.kind = 2
      · have B1 : (m.kind == 1) = false := by simp [h2]
        have B2 : (m.kind == 2) = true := by simp [h2]
        have HTN := Lib.hid (txtN_text (raw := raw) h2)
        rw [HTN.out] at htl
        clear h1 h2
        go_wp2_with fail
        refine (written4_any m.text raw _ (by omega)).mono ?_
        rintro e W3 ⟨t, rfl, ht, hb3⟩
        have hI3 := O.new _ _ _ hIa hb3
        have hK3 : Oth b _ W3 := Oth.below hb3
        have HTT := Lib.hid ht
        have hl : Z.length + t.data.toList.length ≤ M := by rw [ht]; exact htl
        clear ht
        go_wp2_with fail
        refine (O.call _ t _ hI3 hl).mono ?_
        rintro e W4 ⟨rfl, hI4, hK4⟩
        go_wp2_with fail
        go_roundw
        case rel =>
          refine ⟨k + 1, by go_num, by omega, ?_, hKr.trans ((hKa.trans hK3).trans hK4)⟩
          rw [HTK.out, ← List.append_assoc, HZ.out, HTN.out, ← HTT.out]
          exact hI4
        case measure => simp [intOf]; omega
      by_cases h3 : m.kind = 3
      · have B1 : (m.kind == 1) = false := by simp [h3]
        have B2 : (m.kind == 2) = false := by simp [h3]
        have B3 : (m.kind == 3) = true := by simp [h3]
        have HTN := Lib.hid (txtN_remark (raw := raw) h3)
        rw [HTN.out] at htl
        simp only [List.length_append, List.length_cons, List.length_nil] at htl
        clear h1 h2 h3
        go_wp2_with fail
        refine (O.call Z ⟨#[60, 33, 45, 45]⟩ _ hIa (show Z.length + 4 ≤ M by omega)).mono ?_
        rintro e W3 ⟨rfl, hI3, hK3⟩
        have hb3 := hK3.box hbx hne (by decide)
        have d3 := cell_at hb3 3
        go_wp2_with fail
        refine (O.call _ m.text _ hI3 (by simp only [List.length_append]; show Z.length + 4 + _ ≤ M; omega)).mono ?_
        rintro e W4 ⟨rfl, hI4, hK4⟩
        go_wp2_with fail
        refine (O.call _ ⟨#[45, 45, 62]⟩ _ hI4 (by simp only [List.length_append]; show Z.length + 4 + _ + 3 ≤ M; omega)).mono ?_
        rintro e W5 ⟨rfl, hI5, hK5⟩
        go_wp2_with fail
        go_roundw
        case rel =>
          refine ⟨k + 1, by go_num, by omega, ?_, hKr.trans (((hKa.trans hK3).trans hK4).trans hK5)⟩
          rw [HTK.out, ← List.append_assoc, HZ.out, HTN.out]
          simpa using hI5
        case measure => simp [intOf]; omega
      · have B1 : (m.kind == 1) = false := by simp [h1]
        have B2 : (m.kind == 2) = false := by simp [h2]
        have B3 : (m.kind == 3) = false := by simp [h3]
        have HTN := Lib.hid (txtN_other (raw := raw) h1 h2 h3)
        clear h1 h2 h3
        go_wp2_with fail
        go_roundw
        case rel =>
          refine ⟨k + 1, by go_num, by omega, ?_, hKr.trans hKa⟩
          rw [HTK.out, ← List.append_assoc, HZ.out, HTN.out, List.append_nil]
          exact hIa
        case measure => simp [intOf]; omega
    · have hkk : k = l.length := by omega
      subst hkk
      rw [List.take_length] at hIr
      go_wp2_with fail
      go_end0
      exact ⟨rfl, hIr, hKr⟩

end Go.Proofs.YthmnnalamaponaaGreat

/- Part WrtP. -/
namespace Go.Proofs.YthmnnalamaponaaGreat
open Go.RowKit
set_option linter.unusedVariables false

structure PlnAt (Inv : List UInt8 → World → Prop) (b : Nat) (W : World) (acc : List UInt8) (l : List Nd) (k : Nat) (wr : World) : Prop where
  le : k ≤ l.length
  inv : Inv (acc ++ plainL (l.take k)) wr
  oth : Oth b W wr
def PlnRel (Inv : List UInt8 → World → Prop) (b : Nat) (W : World) (acc : List UInt8) (l : List Nd) (x : Value) (wr : World) : Prop :=
  ∃ k : Nat, x = .int .i64 k ∧ PlnAt Inv b W acc l k wr

end Go.Proofs.YthmnnalamaponaaGreat

/- Part Sink. -/
namespace Go.Proofs.YthmnnalamaponaaGreat
open Go.RowKit
set_option linter.unusedVariables false

/-- What the builder b has been told. -/
def BuiltIn (b : Nat) (w0 : World) (acc : List UInt8) (W : World) : Prop :=
  Lib.IsBuilderF 92 5 b b (Lib.byteCells acc) W ∧ Below b w0 W

set_option maxHeartbeats 1000000 in
theorem writes_any (b : Nat) (w0 : World) (acc : List UInt8) (s : ByteArray) (W : World) (hI : BuiltIn b w0 acc W) (hb0 : b ≤ w0.heap.size) (hM : acc.length + s.data.toList.length ≤ 140000000) :
    Calls Tryz.prog 78 #[.string s, .pointer (some ⟨b, 0, none⟩)] W fun e W' => e = .returned (.tuple #[]) ∧ BuiltIn b w0 (acc ++ s.data.toList) W' ∧ Oth b W W' := by
  obtain ⟨hbu, hbel⟩ := hI
  have hss : s.size = s.data.toList.length := by simp
  have HW := Lib.hid (Tryz.Builder_WriteString_k b b (Lib.byteCells acc) s W hbu (by rw [Lib.byteCells_length, hss]; omega) (by have := hbel.size; omega))
  clear hss
  go_enter Tryz.func78, Tryz.ntmps78
  go_wp2_with fail
  refine HW.out.mono ?_
  rintro e W1 ⟨rfl, h1, hb1, hk1⟩
  go_wp2_with fail
  go_end0
  refine ⟨rfl, ⟨.inr ?_, hbel.trans hb1⟩, hk1⟩
  rw [Lib.byteCells_append, ← Lib.strCells_eq]
  exact h1

theorem isBuilder_lt {b : Nat} {bs : List Value} {W : World} (h : Lib.IsBuilderF 92 5 b b bs W) : b < W.heap.size := h.elim (·.lt) (·.lt)

theorem out_writes (b : Nat) (w0 : World) (hb0 : b ≤ w0.heap.size) : Out b w0 78 b 140000000 (BuiltIn b w0) where
  ent := fun args w => enters_of Tryz.func78 (by kernel_rfl) rfl args w
  call := fun acc s W hI hM => writes_any b w0 acc s W hI hb0 hM
  bel := fun acc W h => h.2
  new := fun acc W W' h hb => ⟨builder_below h.1 hb, h.2.trans (hb.mono (Nat.le_of_lt (isBuilder_lt h.1)))⟩
  lt := fun acc W h => isBuilder_lt h.1

/-- How much the counter b has been told. -/
def CountIn (b : Nat) (w0 : World) (acc : List UInt8) (W : World) : Prop :=
  W.heap[b]? = some (.cells #[.int .i64 (acc.length : Int)] 3 (0, 0)) ∧ Below b w0 W

theorem count_lt {b : Nat} {w0 : World} {acc : List UInt8} {W : World} (h : CountIn b w0 acc W) : b < W.heap.size := (Array.getElem?_eq_some_iff.1 h.1).1

set_option maxHeartbeats 1000000 in
/-- write.joined: what a function tells, as one text. -/
theorem joined_any (tf : FuncId) (p : Nat) (X : List UInt8) (W : World) (hent : ∀ args w, (callFunc tf args).run Tryz.prog w = .ok (.enter tf args) w) (hX : X.length ≤ 140000000)
    (ht : ∀ W1, BuiltIn W.heap.size W [] W1 → Below W.heap.size W W1 → Calls Tryz.prog tf #[.func (.func 78) #[] #[.pointer (some ⟨W.heap.size, 0, none⟩)], .pointer (some ⟨p, 0, none⟩)] W1 (Told (BuiltIn W.heap.size W) W.heap.size W1 X)) :
    Calls Tryz.prog 70 #[.func (.func tf) #[] #[.pointer (some ⟨p, 0, none⟩)]] W fun e W' => e = .returned (.string ⟨X.toArray⟩) ∧ Below W.heap.size W W' := by
  have h0 : BuiltIn W.heap.size W [] (W.alloc (.cells #[.pointer none, .slice none 0 0] 92)) := ⟨Lib.IsBuilderF.of (Lib.fresh_isBuilder _ _ W), (Below.refl _ W).alloc (Nat.le_refl _) _⟩
  have HT := Lib.hid (ht _ h0 h0.2)
  clear ht
  go_enter Tryz.func70, Tryz.ntmps70
  go_wp2_with fail
  refine HT.out.mono ?_
  rintro e W2 ⟨rfl, hI2, hK2⟩
  have HS := Lib.hid (Tryz.Builder_String_any_k W.heap.size W.heap.size X W2 hI2.1 hI2.2.size)
  go_wp2_with fail
  refine HS.out.mono ?_
  rintro e W3 ⟨rfl, _, hb3, _⟩
  go_wp2_with fail
  go_ret
  exact ⟨rfl, hI2.2.trans hb3⟩

end Go.Proofs.YthmnnalamaponaaGreat

/- Part Wrt. -/
namespace Go.Proofs.YthmnnalamaponaaGreat
open Go.RowKit
set_option linter.unusedVariables false

set_option maxHeartbeats 1000000 in
set_option maxRecDepth 100000 in
theorem text1_any (S : Nat → Prop) (l : List Nd) (v : Value) (w : World) (hT : Tree S w l v) (hS : ∀ b, S b → b < w.heap.size) (hsz : szL l ≤ 140000) (p : Nat) (hp : p < w.heap.size) (hbox : w.heap[p]? = some (.cells #[v] 22 (0, 0)))
    (W1 : World) (hI : BuiltIn w.heap.size w [] W1) :
    Calls Tryz.prog 71 #[.func (.func 78) #[] #[.pointer (some ⟨w.heap.size, 0, none⟩)], .pointer (some ⟨p, 0, none⟩)] W1 (Told (BuiltIn w.heap.size w) w.heap.size W1 (txtL false l)) := by
  have hlen := txt_len l false
  have hbx := (hI.2.block p hp).trans hbox
  have hc := cell_at hbx 0
  have H := Lib.hid (nodes_any l (out_writes w.heap.size w (Nat.le_refl _)) S hS false v [] W1 hT hI hsz (by simp only [List.length_nil]; omega))
  obtain ⟨A, c, rfl, _⟩ := hT.shape
  clear hbx hbox hT
  go_enter Tryz.func71, Tryz.ntmps71
  go_wp2_with fail
  refine H.out.mono ?_
  rintro e W2 ⟨rfl, h2, k2⟩
  go_wp2_with fail
  go_end0
  exact ⟨rfl, h2, k2⟩

set_option maxHeartbeats 1000000 in
set_option maxRecDepth 100000 in
theorem text_any (S : Nat → Prop) (l : List Nd) (v : Value) (w : World) (hT : Tree S w l v) (hS : ∀ b, S b → b < w.heap.size) (hsz : szL l ≤ 140000) :
    Calls Tryz.prog 61 #[v] w fun e w' => ∃ s : ByteArray, e = .returned (.string s) ∧ s.data.toList = txtL false l ∧ Below w.heap.size w w' := by
  have hlen := txt_len l false
  have hb0 := below_new w (.cells #[v] 22)
  have hbx := box_here w #[v] 22
  have hT0 := hT.keep (Kept.belowB hb0 hS)
  obtain ⟨W0, hW0⟩ : ∃ W0, w.alloc (.cells #[v] 22) = W0 := ⟨_, rfl⟩
  have hp : w.heap.size < W0.heap.size := by rw [← hW0]; simp
  rw [hW0] at hb0 hbx hT0
  have H := Lib.hid (joined_any 71 w.heap.size (txtL false l) W0 (fun args w => enters_of Tryz.func71 (by kernel_rfl) rfl args w) (by omega)
    (fun W1 h1 _ => text1_any S l v W0 hT0 (fun b h => Nat.lt_trans (hS b h) hp) hsz w.heap.size hp hbx W1 h1))
  obtain ⟨A, c, rfl, _⟩ := hT.shape
  clear hT hT0 hbx
  go_enter Tryz.func61, Tryz.ntmps61
  go_wp2_with fail
  refine H.out.mono ?_
  rintro e W2 ⟨rfl, h2⟩
  go_wp2_with fail
  go_ret
  exact ⟨_, rfl, rfl, hb0.trans (h2.mono (Nat.le_of_lt hp))⟩

end Go.Proofs.YthmnnalamaponaaGreat

/- Part Tell. -/
namespace Go.Proofs.YthmnnalamaponaaGreat
open Go.RowKit Go.Shelf
set_option linter.unusedVariables false

attribute [local go_sem] Oper.semAt_some

theorem room_none {F : Fence} (hd : F.depth = none) (k : Nat) : F.room k := fun d h => by rw [hd] at h; cases h
theorem RoundIn.deep {F : Fence} (hd : F.depth = none) {m m' : Nat} {P : Program} {l : Nat} {f : FuncId} {tmps : Array Value} {assign body : Code} {w : World} {R : Ending → World → Prop}
    (h : RoundIn F m P l f tmps assign body w R) : RoundIn F m' P l f tmps assign body w R := ⟨h.1, fun c cs _ => h.2 c cs (room_none hd _)⟩
theorem YieldAt.deep {F : Fence} (hd : F.depth = none) {m : Nat} (m' : Nat) {P : Program} {l : Nat} {args : Array Value} {W : World} {R : Ending → World → Prop} (h : YieldAt F m P l args W R) : YieldAt F m' P l args W R := by
  obtain ⟨fn, tmps, assign, body, hy, hR⟩ := h
  exact ⟨fn, tmps, assign, body, hy, RoundIn.deep hd hR⟩

mutual
/-- A node and all that stand in it, each ahead of its kids. -/
def allNd : Nd → List Nd
  | .mk k n a t ks => .mk k n a t ks :: allN ks
def allN : List Nd → List Nd
  | [] => []
  | n :: l => allNd n ++ allN l
end
theorem allNd_eq (n : Nd) : allNd n = n :: allN n.kids := by cases n; simp [allNd, Nd.kids]
theorem allN_nil : allN [] = [] := by simp [allN]
theorem allN_cons (n : Nd) (l : List Nd) : allN (n :: l) = n :: (allN n.kids ++ allN l) := by simp [allN, allNd_eq]
theorem allN_append : ∀ (a b : List Nd), allN (a ++ b) = allN a ++ allN b
  | [], b => by simp [allN_nil]
  | x :: a, b => by rw [List.cons_append, allN_cons, allN_cons, allN_append a b]; simp
theorem allN_take {l : List Nd} {i : Nat} {n : Nd} (h : l[i]? = some n) : allN (l.take (i + 1)) = allN (l.take i) ++ n :: allN n.kids := by
  rw [List.take_add_one, h, allN_append]
  simp [allN_cons, allN_nil]
theorem allN_len_take (l : List Nd) (i : Nat) : (allN (l.take i)).length ≤ (allN l).length := by
  have : allN l = allN (l.take i) ++ allN (l.drop i) := by rw [← allN_append, List.take_append_drop]
  rw [this, List.length_append]
  omega

/-- Something holds at each place of a list, and of all that stand in it. -/
inductive AllP (P : List Nd → Nat → Prop) : List Nd → Prop
  | mk (l : List Nd) (h : ∀ (i : Nat) (n : Nd), l[i]? = some n → P l i) (hk : ∀ (i : Nat) (n : Nd), l[i]? = some n → AllP P n.kids) : AllP P l

/-- A place: a list that lies in a world's blocks of S, a number, the node there. -/
structure Pos (w0 : World) (S : Nat → Prop) (P : List Nd → Nat → Prop) where
  v : Value
  i : Nat
  l : List Nd
  n : Nd
  tree : Tree S w0 l v
  at_ : l[i]? = some n
  ok : P l i
def Pos.encs {w0 : World} {S : Nat → Prop} {P : List Nd → Nat → Prop} (x : Pos w0 S P) : Array Value := #[x.v, .int .i64 (x.i : Int)]

set_option maxHeartbeats 2000000 in
set_option maxRecDepth 100000 in
theorem tell_in (F : Fence) (hd : F.depth = none) (hf : F.fn 57) (hro : F.round = none) (lp n₀ N : Nat) (w0 : World) (S : Nat → Prop) (hS : ∀ b, S b → b < n₀) (P : List Nd → Nat → Prop)
    (J Jx : List (Pos w0 S P) → World → Prop)
    (hY : ∀ (m : Nat) (pre : List (Pos w0 S P)) (x : Pos w0 S P) (W : World), J pre W → pre.length < N → YieldAt F m Tryz.prog lp x.encs W fun e W' =>
      (e = .returned (.bool true) ∧ J (pre ++ [x]) W' ∧ Below n₀ W W') ∨ (e = .returned (.bool false) ∧ Jx (pre ++ [x]) W')) (l : List Nd) :
    ∀ (n : Nat) (v : Value) (pre : List (Pos w0 S P)) (W : World), AllP P l → szL l ≤ 100000 → Tree S w0 l v → Below n₀ w0 W → J pre W → pre.length + (allN l).length ≤ N →
      CallsIn F n Tryz.prog 57 #[v, .func (.yield lp) #[] #[]] W fun e W' =>
        (e = .returned (.bool true) ∧ (∃ ys : List (Pos w0 S P), ys.map Pos.n = allN l ∧ J (pre ++ ys) W') ∧ Below n₀ W W') ∨ (e = .returned (.bool false) ∧ ∃ q, Jx (pre ++ q) W') := by
  induction l using nd_ind with
  | h l ih =>
  intro n v pre W hP hsz hT hB hJ hN
  have hlen := szL_len l
  have hdd : ∀ k : Nat, (F.depth.isSome = true → 1 ≤ k) := fun k h => by rw [hd] at h; cases h
  obtain ⟨A, c, rfl, hc⟩ := hT.shape
  refine callsIn_of_wp Tryz.func57 rfl hf ?_ hro
  simp only [Tryz.ntmps57, List.size_toArray, List.length_cons, List.length_nil, Nat.reduceAdd, Nat.reduceSub, Array.replicate_succ, Array.replicate_zero, List.push_toArray, List.append_toArray, List.nil_append, List.cons_append]
  gi_wp2
  gi_loopw [8] (fun x wr => ∃ (i : Nat) (ys : List (Pos w0 S P)), x = .int .i64 i ∧ i ≤ l.length ∧ ys.map Pos.n = allN (l.take i) ∧ J (pre ++ ys) wr ∧ Below n₀ W wr) (fun x _ => l.length - (intOf x).toNat)
  case atStart => exact ⟨0, [], rfl, by omega, by simp [allN_nil], by simpa using hJ, Below.refl _ _⟩
  case round =>
    obtain ⟨i, ys, rfl, hi, hys, hJs, hBs⟩ := hrel
    by_cases hlt : i < l.length
    · obtain ⟨b, o, c', hv, _, hSb, hcell⟩ := hT.open_ (by omega)
      injection hv with hA _ hcc
      subst hA
      subst hcc
      obtain ⟨x, hx⟩ : ∃ x, l[i]? = some x := ⟨_, List.getElem?_eq_getElem hlt⟩
      obtain ⟨va, vk, hat⟩ := hcell i x hx
      have hPi : P l i := by cases hP with | mk l h hk => exact h i x hx
      have hPk : AllP P x.kids := by cases hP with | mk l h hk => exact hk i x hx
      have hyl : ys.length = (allN (l.take i)).length := by rw [← hys, List.length_map]
      have hst := allN_take hx
      have hle1 := allN_len_take l (i + 1)
      rw [hst, List.length_append, List.length_cons] at hle1
      have hle2 := szL_kids hx
      have hy0 := hY (n - 1) (pre ++ ys) ⟨_, i, l, x, hT, hx, hPi⟩ wr hJs (by rw [List.length_append]; omega)
      have hy2 := hy0.mono (R' := fun e W' =>
        (e = .returned (.bool true) ∧ W'.cell? ⟨b, o + i * 5 + 4, none⟩ = some vk ∧ CallsIn F (n - 1) Tryz.prog 57 #[vk, .func (.yield lp) #[] #[]] W' fun e W'' =>
          (e = .returned (.bool true) ∧ (∃ zs : List (Pos w0 S P), zs.map Pos.n = allN (l.take (i + 1)) ∧ J (pre ++ zs) W'') ∧ Below n₀ W W'') ∨ (e = .returned (.bool false) ∧ ∃ q, Jx (pre ++ q) W'')) ∨
        (e = .returned (.bool false) ∧ ∃ q, Jx (pre ++ q) W')) (fun e W' h => h.elim
          (fun ⟨he, hj, hb⟩ => .inl ⟨he, (((hB.trans hBs).trans hb).cell (p := ⟨b, o + i * 5 + 4, none⟩) (hS b hSb)).trans hat.c4,
            (ih i x hx (n - 1) vk (pre ++ ys ++ [⟨_, i, l, x, hT, hx, hPi⟩]) W' hPk (by omega) hat.kids ((hB.trans hBs).trans hb) hj (by simp only [List.length_append, List.length_singleton]; omega)).mono (fun e W'' h => h.elim
              (fun ⟨he, ⟨zs, hz, hjz⟩, hb2⟩ => .inl ⟨he, ⟨ys ++ (⟨_, i, l, x, hT, hx, hPi⟩ : Pos w0 S P) :: zs, by rw [hst, List.map_append, List.map_cons, hys, hz], by simpa using hjz⟩, (hBs.trans hb).trans hb2⟩)
              (fun ⟨he, q, hq⟩ => .inr ⟨he, ys ++ (⟨_, i, l, x, hT, hx, hPi⟩ : Pos w0 S P) :: q, by simpa using hq⟩))⟩)
          (fun ⟨he, hq⟩ => .inr ⟨he, ys ++ [⟨_, i, l, x, hT, hx, hPi⟩], by simpa using hq⟩))
      obtain ⟨fn, tmps, assign, body, hy, hR⟩ := hy2
      simp only [Pos.encs] at hy
      clear hy0 hst hle1 hcell hat hyl hys hN hY ih
      gi_wp2_with (first
        | ((try refine ⟨hdd _, ?_⟩); refine hR.mono ?_; clear hR; rintro e W2 (⟨rfl, c4, hcall⟩ | ⟨rfl, q, hq⟩))
        | ((try refine ⟨hdd _, ?_⟩); gi_at_call 57; refine hcall.mono ?_; clear hcall; rintro e W3 (⟨rfl, ⟨zs, hz, hjz⟩, hb3⟩ | ⟨rfl, q, hq⟩)))
      · go_roundw
        case rel => exact ⟨i + 1, zs, by go_num, by omega, hz, hjz, hb3⟩
        case measure => simp [intOf]; omega
      · go_ret
        exact .inr ⟨rfl, q, hq⟩
      · go_ret
        exact .inr ⟨rfl, q, hq⟩
    · have hil : i = l.length := by omega
      subst hil
      rw [List.take_length] at hys
      gi_wp2
      go_ret
      exact .inl ⟨rfl, ⟨ys, hys, hJs⟩, hBs⟩

/-- What all tells one by one: the closure that it hands back. -/
theorem all1_in (F : Fence) (hd : F.depth = none) (n : Nat) (h1 : F.fn 56) (hf : F.fn 57) (hro : F.round = none) (lp Bt n₀ : Nat) (w0 : World) (S : Nat → Prop) (hS : ∀ b, S b → b < n₀) (P : List Nd → Nat → Prop)
    (l : List Nd) (v : Value) (hP : AllP P l) (hsz : szL l ≤ 100000) (hT : Tree S w0 l v) (J Jx : List (Pos w0 S P) → World → Prop)
    (hY : ∀ (pre : List (Pos w0 S P)) (x : Pos w0 S P) (W : World), J pre W → pre.length < (allN l).length → YieldAt F (n - 1) Tryz.prog lp x.encs W fun e W' =>
      (e = .returned (.bool true) ∧ J (pre ++ [x]) W' ∧ Below n₀ W W') ∨ (e = .returned (.bool false) ∧ Jx (pre ++ [x]) W'))
    (W : World) (hB : Below n₀ w0 W) (hBt : W.cell? ⟨Bt, 0, none⟩ = some v) (h0 : J [] W) :
    CallsIn F n Tryz.prog 56 #[.func (.yield lp) #[] #[], .pointer (some ⟨Bt, 0, none⟩)] W fun e W' => (∃ v, e = .returned v) ∧
      ((∃ ys : List (Pos w0 S P), ys.map Pos.n = allN l ∧ J ys W') ∨ (∃ pre : List (Pos w0 S P), True ∧ Jx pre W')) := by
  have hdd : ∀ k : Nat, (F.depth.isSome = true → 1 ≤ k) := fun k h => by rw [hd] at h; cases h
  have hp := tell_in F hd hf hro lp n₀ (allN l).length w0 S hS P J Jx (fun m pre x W hj hl => YieldAt.deep hd m (hY pre x W hj hl)) l (n - 1) v [] W hP hsz hT hB h0 (by simp)
  obtain ⟨A, c, rfl, hc⟩ := hT.shape
  refine callsIn_of_wp Tryz.func56 rfl h1 ?_ hro
  simp only [Tryz.ntmps56, List.size_toArray, List.length_cons, List.length_nil, Nat.reduceAdd, Nat.reduceSub, Array.replicate_succ, Array.replicate_zero, List.push_toArray, List.append_toArray, List.nil_append, List.cons_append]
  gi_wp2_with ((try refine ⟨hdd _, ?_⟩); gi_at_call 57; refine hp.mono ?_; clear hp; rintro e W1 (⟨rfl, ⟨ys, hys, hJ1⟩, _⟩ | ⟨rfl, q, hx⟩))
  · go_end0
    exact ⟨⟨_, rfl⟩, .inl ⟨ys, hys, by simpa using hJ1⟩⟩
  · go_end0
    exact ⟨⟨_, rfl⟩, .inr ⟨_, trivial, hx⟩⟩

/-- dom.all: the list is boxed; the function value captures the box. -/
theorem all_in (F : Fence) (n : Nat) (h : F.fn 39) (hro : F.round = none) (v : Value) (hv : ∃ A n c, v = .slice A n c) (w : World) :
    CallsIn F n Tryz.prog 39 #[v] w fun e w' => e = .returned (.func (.func 56) #[] #[.pointer (some ⟨w.heap.size, 0, none⟩)]) ∧ w' = w.alloc (.cells #[v] 22) := by
  obtain ⟨A, m, c, rfl⟩ := hv
  refine callsIn_of_wp Tryz.func39 rfl h ?_ hro
  simp only [Tryz.ntmps39, List.size_toArray, List.length_cons, List.length_nil, Nat.reduceAdd, Nat.reduceSub, Array.replicate_succ, Array.replicate_zero, List.push_toArray, List.append_toArray, List.nil_append, List.cons_append]
  gi_wp2
  go_ret
  exact ⟨rfl, rfl⟩

/-- dom.all hands back what tells all nodes of the list, each ahead of its kids; or some of them. -/
theorem all_stops (F : Fence) (hd : F.depth = none) (n : Nat) (h1 : F.fn 56) (hf : F.fn 57) (hro : F.round = none) (Bt n₀ : Nat) (w0 : World) (S : Nat → Prop) (hS : ∀ b, S b → b < n₀) (P : List Nd → Nat → Prop)
    (l : List Nd) (v : Value) (hP : AllP P l) (hsz : szL l ≤ 100000) (hT : Tree S w0 l v) (w : World) (hB : Below n₀ w0 w) (hn : n₀ ≤ w.heap.size) (hBt : Bt < w.heap.size) (hc : w.cell? ⟨Bt, 0, none⟩ = some v) :
    SeqStopsK F n Tryz.prog 56 #[.pointer (some ⟨Bt, 0, none⟩)] (Pos.encs (w0 := w0) (S := S) (P := P)) (Below n₀) (fun ys => ys.map Pos.n = allN l) (fun _ => True) (allN l).length w := fun lp J Jx W hW _ _ hY h0 =>
  all1_in F hd n h1 hf hro lp Bt n₀ w0 S hS P l v hP hsz hT J Jx hY W (hB.trans (hW.mono hn)) ((hW.cell (p := ⟨Bt, 0, none⟩) hBt).trans hc) h0

end Go.Proofs.YthmnnalamaponaaGreat
