/- dom.texts: its walk. -/
import Derived.Test.YthiibcjahmokpaaTreeA
import Derived.Test.YthiibcjahmokpaaDomM
import Derived.Test.YthiibcjahmokpaaBuild
import Derived.Test.YthiibcjahmokpaaShelf
namespace Go.Proofs.Ythiibcjahmokpaa
open Go.RowKit
set_option linter.unusedVariables false

structure TxAt (w wr : World) (l : List Nd) (k : Nat) : Prop where
  le : k ≤ l.length
  all : ∀ (j : Nat) (n : Nd), j < k → l[j]? = some n → n.kind = 2
  bu : Lib.IsBuilderF 57 5 w.heap.size w.heap.size (Lib.byteCells (catT (l.take k))) wr
  bel : Below w.heap.size w wr
def TxRel (w : World) (l : List Nd) (x : Value) (wr : World) : Prop := ∃ k : Nat, x = .int .i64 k ∧ TxAt w wr l k

theorem catT_take_len (l : List Nd) (k : Nat) : (catT (l.take k)).length ≤ szL l := by
  have h1 := catT_len (l.take k)
  have h2 : szL l = szL (l.take k) + szL (l.drop k) := by rw [← szL_append, List.take_append_drop]
  omega

set_option maxHeartbeats 2000000 in
set_option maxRecDepth 100000 in
theorem texts_any (S : Nat → Prop) (l : List Nd) (v : Value) (w : World) (hT : Tree S w l v) (hS : ∀ b, S b → b < w.heap.size) (hsz : szL l ≤ 100000) :
    Calls Try.prog 13 #[v] w fun e w' => ∃ (k : Nat) (s : ByteArray), e = .returned (.tuple #[.string s, .int .i64 (k : Int)]) ∧ k ≤ l.length ∧
      (∀ (j : Nat) (n : Nd), j < k → l[j]? = some n → n.kind = 2) ∧ (∀ n, l[k]? = some n → n.kind ≠ 2) ∧ s.data.toList = catT (l.take k) ∧ Below w.heap.size w w' := by
  have hlen := szL_len l
  obtain ⟨A, c, rfl, hc⟩ := hT.shape
  have HT := Lib.hid hT
  clear hT
  go_enter Try.func13, Try.ntmps13
  go_wp2_with fail
  go_loopw [9] (fun x wr => TxRel w l x wr) (fun x _ => l.length - (intOf x).toNat)
  case atStart => exact ⟨0, rfl, by omega, fun j n hj => by omega, Lib.IsBuilderF.of (Lib.fresh_isBuilder _ _ w), (Below.refl _ w).alloc (Nat.le_refl _) _⟩
  case round =>
    obtain ⟨k, rfl, HR⟩ := hrel
    have hk := HR.le
    have hbel := HR.bel
    have hctl := catT_take_len l k
    by_cases hlt : k < l.length
    · obtain ⟨b, o, c', hv, _, hSb, hcell⟩ := HT.out.open_ (by omega)
      injection hv with hA _ hcc
      subst hA
      subst hcc
      obtain ⟨n, hn⟩ : ∃ n, l[k]? = some n := ⟨_, List.getElem?_eq_getElem hlt⟩
      obtain ⟨va, vk, hat⟩ := hcell k n hn
      have hb := hS b hSb
      obtain ⟨A1, c1, rfl, _⟩ := id hat.at_
      obtain ⟨A2, c2, rfl, _⟩ := hat.kids.shape
      have q0 : wr.cell? ⟨b, o + k * 5, none⟩ = some (.int .i64 n.kind) := (hbel.cell (p := ⟨b, o + k * 5, none⟩) hb).trans hat.c0
      have q1 : wr.cell? ⟨b, o + k * 5 + 1, none⟩ = some (.string n.name) := (hbel.cell (p := ⟨b, o + k * 5 + 1, none⟩) hb).trans hat.c1
      have q2 : wr.cell? ⟨b, o + k * 5 + 2, none⟩ = some (.slice A1 n.attrs.length c1) := (hbel.cell (p := ⟨b, o + k * 5 + 2, none⟩) hb).trans hat.c2
      have q3 : wr.cell? ⟨b, o + k * 5 + 3, none⟩ = some (.string n.text) := (hbel.cell (p := ⟨b, o + k * 5 + 3, none⟩) hb).trans hat.c3
      have q4 : wr.cell? ⟨b, o + k * 5 + 4, none⟩ = some (.slice A2 n.kids.length c2) := (hbel.cell (p := ⟨b, o + k * 5 + 4, none⟩) hb).trans hat.c4
      have HBU := Lib.hid (fun ob => builder_below HR.bu (below_new wr ob))
      have HAL := Lib.hid HR.all
      have HBL := Lib.hid (fun ob => hbel.alloc hbel.size ob)
      have hns := szL_at hn
      rw [szN_eq] at hns
      have HN := Lib.hid hn
      clear hcell hat hn
      by_cases h2 : n.kind = 2
      · have B2 : (n.kind == 2) = true := by simp [h2]
        have HK := Lib.hid h2
        clear h2
        go_wp2_with fail
        refine (Try.Builder_WriteString_k w.heap.size w.heap.size _ n.text _ (HBU.out _) (by rw [Lib.byteCells_length]; omega) (HBL.out _).size).mono ?_
        rintro e w4 ⟨rfl, h4, b4, _⟩
        have hB4 := (HBL.out _).trans b4
        rw [Lib.strCells_eq, ← Lib.byteCells_append] at h4
        have H4 := Lib.hid h4
        clear b4 h4
        go_wp2_with fail
        go_roundw
        case rel =>
          refine ⟨k + 1, by go_num, by omega, fun j x hj hx => ?_, ?_, hB4⟩
          · by_cases hjk : j < k
            · exact HAL.out j x hjk hx
            · have : j = k := by omega
              subst this
              rw [HN.out] at hx
              injection hx with hx
              subst hx
              exact HK.out
          · rw [List.take_add_one, HN.out]
            show Lib.IsBuilderF _ _ _ _ (Lib.byteCells (catT (l.take k ++ [n]))) _
            rw [catT_snoc]
            exact Or.inr H4.out
        case measure => simp [intOf]; omega
      · have B2 : (n.kind == 2) = false := by simp [h2]
        have HK := Lib.hid h2
        clear h2
        go_wp2_with fail
        refine (Try.Builder_String_any_k w.heap.size w.heap.size _ _ (HBU.out _) (HBL.out _).size).mono ?_
        rintro e w5 ⟨rfl, _, b5, _⟩
        have hB5 := (HBL.out _).trans b5
        clear b5
        go_wp2_with fail
        go_ret2
        refine ⟨k, _, rfl, by omega, HAL.out, fun x hx => ?_, rfl, hB5⟩
        rw [HN.out] at hx
        injection hx with hx
        subst hx
        exact HK.out
    · have hkl : k = l.length := by omega
      subst hkl
      have HBU := Lib.hid HR.bu
      have HAL := Lib.hid HR.all
      go_wp2_with fail
      refine (Try.Builder_String_any_k w.heap.size w.heap.size _ _ HBU.out hbel.size).mono ?_
      rintro e w5 ⟨rfl, _, b5, _⟩
      have hB5 := hbel.trans b5
      clear b5
      go_wp2_with fail
      go_ret2
      refine ⟨l.length, ⟨(catT l).toArray⟩, rfl, Nat.le_refl _, HAL.out, fun x hx => ?_, by simp, hB5⟩
      rw [List.getElem?_eq_none (by omega)] at hx
      cases hx

end Go.Proofs.Ythiibcjahmokpaa
