/- dom.tagged, fault, at the document's example: their walks. -/
import Derived.Test.YthiibcjahmokpaaDomL
namespace Go.Proofs.Ythiibcjahmokpaa
open Go.RowKit Go.Maps
set_option linter.unusedVariables false

theorem strKey : Keyed Try.prog 9 := string_keyed Try.underlying9
theorem zeroUnit (w : World) : (zeroValue 65).run Try.prog w = .ok (.agg #[]) w := by kernel_rfl
theorem make_hint (w : World) : (Instr.makeMap 64 (some (.int .i64 1))).run Try.prog w = .ok (.map (some w.heap.size)) (w.alloc (.map #[] 0)) := by rfl
/-- Block b is a set that holds nothing. -/
def Empty (w : World) (b : Nat) : Prop := w.ownsMap (H := Unit) Try.prog 9 unitElem b 0 (.map [])
theorem Empty.made (w : World) : Empty (w.alloc (.map #[] 0)) w.heap.size := World.ownsMap_made _ _ _ _
theorem Empty.below {w w' : World} {b : Nat} (h : Empty w b) (hb : Below w.heap.size w w') : Empty w' b := by
  obtain ⟨es, clock, hh, F, hs, hD⟩ := h
  have hlt := (Array.getElem?_eq_some_iff.1 hh).1
  exact ⟨es, clock, (hb.block b hlt).trans hh, F, hs, hD⟩
theorem Empty.look {w : World} {b : Nat} (h : Empty w b) (k : ByteArray) (hk : k.size ≤ maxLen) :
    (Instr.lookup 64 (.map (some b)) (.string k) true).run Try.prog w = .ok (.tuple #[.agg #[], .bool false]) w := by
  obtain ⟨v, ps, hrun, hv⟩ := World.ownsMap.look_ok h strKey Try.underlying64 (zeroUnit w) unitElem_mk (Go.WideMaps.keyOf_string_mk Try.underlying9 hk)
  obtain ⟨rfl, _⟩ := unitElem_inv hv
  exact hrun
theorem Empty.put {w : World} {b : Nat} (h : Empty w b) (k : ByteArray) (hk : k.size ≤ maxLen) :
    ∃ w', (Instr.mapUpdate 64 (.map (some b)) (.string k) (.agg #[])).run Try.prog w = .ok () w' ∧ w.grownBy w' (some b) := by
  obtain ⟨w', hrun, _, hg⟩ := World.ownsMap.update h strKey Try.underlying64 (by unfold maxLen; omega) (Go.WideMaps.keyOf_string_mk Try.underlying9 hk) unitElem_mk
  exact ⟨w', hrun, hg⟩

structure TagAt (w wr : World) (b o c1 : Nat) : Prop where
  c2 : wr.cell? ⟨w.heap.size, 2, none⟩ = some (.slice (some ⟨b, o, none⟩) 1 c1)
  bel : Below w.heap.size w wr

set_option maxHeartbeats 2000000 in
set_option maxRecDepth 100000 in
theorem tagged_el (b o c1 n2 c2 : Nat) (A2 : Option Addr) (w : World) (hb : b < w.heap.size) (q0 : w.cell? ⟨b, o, none⟩ = some (.string idS)) (q1 : w.cell? ⟨b, o + 1, none⟩ = some (.string ⟨#[49]⟩)) :
    Calls Try.prog 22 #[.agg #[.int .i64 1, .string ⟨#[97]⟩, .slice (some ⟨b, o, none⟩) 1 c1, .string ⟨#[]⟩, .slice A2 n2 c2]] w fun e w' => e = .returned (.int .i64 0) ∧ Below w.heap.size w w' := by
  have hmk := fun W => make_hint W
  have hq : ∀ wr, Below w.heap.size w wr → wr.cell? ⟨b, o, none⟩ = some (.string idS) ∧ wr.cell? ⟨b, o + 1, none⟩ = some (.string ⟨#[49]⟩) := fun wr h => ⟨(h.cell (p := ⟨b, o, none⟩) hb).trans q0, (h.cell (p := ⟨b, o + 1, none⟩) hb).trans q1⟩
  have HQ := Lib.hid hq
  clear q0 q1 hq
  go_enter Try.func22, Try.ntmps22
  go_wp2_with fail
  refine (named_a _).mono ?_
  rintro e w1 ⟨rfl, rfl⟩
  go_wp2_with fail
  obtain ⟨W2, hW2⟩ : ∃ W2, (w.alloc (.cells #[.int .i64 1, .string ⟨#[97]⟩, .slice (some ⟨b, o, none⟩) 1 c1, .string ⟨#[]⟩, .slice A2 n2 c2] 28)).alloc (.map #[] 0) = W2 := ⟨_, rfl⟩
  have hE2 : Empty W2 (w.heap.size + 1) := by rw [← hW2]; simpa using Empty.made (w.alloc (.cells #[.int .i64 1, .string ⟨#[97]⟩, .slice (some ⟨b, o, none⟩) 1 c1, .string ⟨#[]⟩, .slice A2 n2 c2] 28))
  have hA2 : TagAt w W2 b o c1 := by
    rw [← hW2]
    refine ⟨?_, ((Below.refl _ w).alloc (Nat.le_refl _) _).alloc (by simp) _⟩
    rw [World.cell?_alloc_past _ _ _ (by simp), World.cell?_alloc_mark]
    rfl
  rw [hW2]
  have HE2 := Lib.hid hE2
  have HA2 := Lib.hid hA2
  clear hE2 hA2 hW2
  go_loopw [21] (fun x wr => (x = .int .i64 0 ∧ wr = W2) ∨ (x = .int .i64 1 ∧ TagAt w wr b o c1)) (fun x _ => 1 - (intOf x).toNat)
  case atStart => exact .inl ⟨rfl, rfl⟩
  case round =>
    rcases hrel with ⟨rfl, rfl⟩ | ⟨rfl, HR⟩
    · obtain ⟨q0, q1⟩ := HQ.out wr HA2.out.bel
      go_wp2_with fail
      refine (attributed_id _).mono ?_
      rintro e w4 ⟨rfl, hb4⟩
      have d0 : w4.cell? ⟨wr.heap.size, 0, none⟩ = some (.string idS) := (hb4.cell (p := ⟨wr.heap.size, 0, none⟩) (by simp)).trans (World.cell?_alloc_mark _ _ _ _ _)
      have hlk := ((HE2.out.below (below_new wr _)).below hb4).look idS (by decide)
      obtain ⟨w5, hput, hg5⟩ := (((HE2.out.below (below_new wr _)).below hb4).below (below_new w4 (.cells #[] 65))).put idS (by decide)
      have hB4 : Below wr.heap.size wr w4 := below_after (below_new wr _) hb4
      have hA5 : TagAt w w5 b o c1 := by
        have h1 : Below w.heap.size w w4 := below_after HA2.out.bel hB4
        have h2 := h1.alloc (by have := h1.size; omega) (.cells #[] 65)
        have hsz := HA2.out.bel.size
        have hlt : w.heap.size < wr.heap.size := by
          rcases Nat.lt_or_ge w.heap.size wr.heap.size with h | h
          · exact h
          · have := HA2.out.c2
            unfold World.cell? at this
            rw [Array.getElem?_eq_none h] at this
            cases this
        refine ⟨?_, h2.grown hg5 (by have := h1.size; simp; omega) (fun g hg => by cases hg; omega)⟩
        rw [World.cell?_of_block (a := ⟨w.heap.size, 2, none⟩) (hg5.block _ (by have := hB4.size; simp; omega) (by simp)), World.cell?_alloc_past _ _ _ (by have := hB4.size; show w.heap.size < _; omega)]
        exact (hB4.cell (p := ⟨w.heap.size, 2, none⟩) hlt).trans HA2.out.c2
      have hlt4 : wr.heap.size < w4.heap.size := by have := hb4.size; simp at this; omega
      have d0' : (w4.alloc (.cells #[] 65)).cell? ⟨wr.heap.size, 0, none⟩ = some (.string idS) := (World.cell?_alloc_past _ _ _ hlt4).trans d0
      have HA5 := Lib.hid hA5
      clear hb4 hB4 hA5 hg5
      go_wp2_with fail
      go_roundw
      case rel => exact .inr ⟨rfl, HA5.out⟩
      case measure => simp [intOf]
    · have hc2 := HR.c2
      go_wp2_with fail
      go_loopw [45] (fun x wr => (x = .int .i64 0 ∨ x = .int .i64 1) ∧ Below w.heap.size w wr) (fun x _ => 1 - (intOf x).toNat)
      case atStart => exact ⟨.inl rfl, HR.bel⟩
      case round =>
        obtain ⟨rfl | rfl, hbel⟩ := hrel
        · obtain ⟨q0, q1⟩ := HQ.out _ hbel
          have HB := Lib.hid hbel
          clear hbel
          go_wp2_with fail
          refine (is_any ⟨#[49]⟩ _ (by decide)).mono ?_
          rw [one_is]
          rintro e w4 ⟨rfl, hb4⟩
          have HB4 := Lib.hid (below_after HB.out (below_after (below_new _ _) hb4))
          clear hb4
          go_wp2_with fail
          go_roundw
          case rel => exact ⟨.inr rfl, HB4.out⟩
          case measure => simp [intOf]
        · go_wp2_with fail
          go_ret
          exact ⟨rfl, hbel⟩

set_option maxHeartbeats 2000000 in
set_option maxRecDepth 100000 in
theorem fault_el (b o c1 n2 c2 : Nat) (A2 : Option Addr) (bh : Bool) (w : World) (hb : b < w.heap.size) (q0 : w.cell? ⟨b, o, none⟩ = some (.string idS)) (q1 : w.cell? ⟨b, o + 1, none⟩ = some (.string ⟨#[49]⟩)) :
    Calls Try.prog 11 #[.agg #[.int .i64 1, .string ⟨#[97]⟩, .slice (some ⟨b, o, none⟩) 1 c1, .string ⟨#[]⟩, .slice A2 n2 c2], .bool bh] w fun e w' => e = .returned (.int .i64 0) ∧ Below w.heap.size w w' := by
  have hcells : ∀ (j : Nat) (u : Value), #[Value.int .i64 1, .string ⟨#[97]⟩, .slice (some ⟨b, o, none⟩) 1 c1, .string ⟨#[]⟩, .slice A2 n2 c2][j]? = some u →
      ∀ w1, Below (w.alloc (.cells #[.int .i64 1, .string ⟨#[97]⟩, .slice (some ⟨b, o, none⟩) 1 c1, .string ⟨#[]⟩, .slice A2 n2 c2] 28)).heap.size (w.alloc (.cells #[.int .i64 1, .string ⟨#[97]⟩, .slice (some ⟨b, o, none⟩) 1 c1, .string ⟨#[]⟩, .slice A2 n2 c2] 28)) w1 → w1.cell? ⟨w.heap.size, j, none⟩ = some u := by
    intro j u hj w1 h1
    rw [h1.cell (p := ⟨w.heap.size, j, none⟩) (by simp)]
    rw [World.cell?_alloc_mark]
    exact hj
  have HC := Lib.hid hcells
  have hq : ∀ wr, Below w.heap.size w wr → wr.cell? ⟨b, o, none⟩ = some (.string idS) ∧ wr.cell? ⟨b, o + 1, none⟩ = some (.string ⟨#[49]⟩) := fun wr h => ⟨(h.cell (p := ⟨b, o, none⟩) hb).trans q0, (h.cell (p := ⟨b, o + 1, none⟩) hb).trans q1⟩
  have HQ := Lib.hid hq
  clear hcells q0 q1 hq
  go_enter Try.func11, Try.ntmps11
  go_wp2_with fail
  refine (shaped_el ⟨#[97]⟩ (some ⟨b, o, none⟩) A2 1 n2 c1 c2 _).mono ?_
  rintro e w1 ⟨rfl, hb1⟩
  have c0 := HC.out 0 _ rfl w1 hb1
  have d1 := HC.out 1 _ rfl w1 hb1
  have d2 := HC.out 2 _ rfl w1 hb1
  have c3 := HC.out 3 _ rfl w1 hb1
  have d4 := HC.out 4 _ rfl w1 hb1
  have HB1 := Lib.hid (below_after (below_new w _) hb1)
  clear hb1
  go_wp2_with fail
  refine (tagged_el b o c1 n2 c2 A2 w1 (by have := HB1.out.size; omega) (HQ.out _ HB1.out).1 (HQ.out _ HB1.out).2).mono ?_
  rintro e w2 ⟨rfl, hb2⟩
  have HB2 := Lib.hid (below_after HB1.out hb2)
  go_wp2_with fail
  go_ret
  exact ⟨rfl, HB2.out⟩

end Go.Proofs.Ythiibcjahmokpaa
