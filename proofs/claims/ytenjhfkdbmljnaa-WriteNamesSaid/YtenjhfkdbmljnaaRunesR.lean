/- strainerref01.Runes: its walk. -/
import Derived.Test.YtenjhfkdbmljnaaOne
namespace Go.Proofs.Ytenjhfkdbmljnaa
open Go.RowKit
set_option linter.unusedVariables false

theorem info_rune : (Try.prog.info? 21).map (fun i => (i.zero, i.size, i.bytes)) = some (some (.int .i32 0), 1, 4) := by kernel_rfl

theorem byteCells_drop (l : List UInt8) (k j : Nat) : (Lib.byteCells (l.drop k))[j]? = (Lib.byteCells l)[k + j]? := by
  unfold Lib.byteCells
  rw [List.getElem?_map, List.getElem?_map, List.getElem?_drop]

/-- Characters as cells. -/
def rcells (l : List Int) : List Value := l.map (Value.int .i32)
theorem rcells_length (l : List Int) : (rcells l).length = l.length := by simp [rcells]
theorem rcells_append (a b : List Int) : rcells (a ++ b) = rcells a ++ rcells b := by simp [rcells]

set_option maxHeartbeats 1000000 in
set_option maxRecDepth 100000 in
theorem runesR_any (A : Option Addr) (c : Nat) (l : List UInt8) (w : World) (hs : Sits w w.heap.size A (Lib.byteCells l)) (hc : l.length ≤ c) (hm : l.length ≤ 1000000) :
    Calls Try.prog 30 #[.slice A l.length c] w fun e w' => ∃ A' c', e = .returned (.slice A' (runes l).length c') ∧ (runes l).length ≤ c' ∧
      w'.ownsRow w.heap.size 21 1 (.slice A' (runes l).length c') (runes l).length (rcells (runes l)) ∧ Below w.heap.size w w' := by
  obtain ⟨i0, hi, hz0, hz1, hz2⟩ := info_parts info_rune
  have HS := Lib.hid hs
  clear hs
  go_enter Try.func30, Try.ntmps30
  go_wp2
  go_loopw [3, 4] (fun v i wr => ∃ (k : Nat) (acc : List Int), k ≤ l.length ∧ i = .int .i64 k ∧ Hid (runes l = acc ++ runes (l.drop k)) ∧ acc.length ≤ k ∧ wr.ownsRow w.heap.size 21 1 v acc.length (rcells acc) ∧ Below w.heap.size w wr) (fun _ i _ => l.length - (intOf i).toNat)
  case atStart => exact ⟨0, [], by omega, rfl, Lib.hid (by simp), by simp, World.ownsRow_nil _ _ _ _, Below.refl _ _⟩
  case round =>
    obtain ⟨k, acc, hk, rfl, HR, hal, hown, hbel⟩ := hrel
    by_cases hlt : k < l.length
    · obtain ⟨b, o, rfl, hb, hcell⟩ := HS.out.open_ (by rw [Lib.byteCells_length]; omega)
      have hcell' : ∀ j u, (Lib.byteCells (l.drop k))[j]? = some u → wr.cell? ⟨b, o + k + j, none⟩ = some u := by
        intro j u hu
        rw [byteCells_drop] at hu
        rw [hbel.cell (p := ⟨b, o + k + j, none⟩) hb, Nat.add_assoc]
        exact hcell _ u hu
      have hw := dec_width (l := l.drop k) (by rw [List.length_drop]; omega)
      rw [List.length_drop] at hw
      have hst := runes_step (l := l.drop k) (by rw [List.length_drop]; omega)
      rw [List.drop_drop] at hst
      have HST := Lib.hid hst
      have HC := Lib.hid hcell'
      clear hst hcell' hcell
      go_wp2_with fail
      refine (one_sits HC.out (by rw [List.length_drop]) (by unfold maxLen; rw [List.length_drop]; omega) (by rw [List.length_drop]; omega)).mono ?_
      rintro e w' ⟨rfl, rfl⟩
      go_wp2_with (at_builtin; refine wpList_append_own _ rfl _ _ 48 rfl w.heap.size 21 i0 (.int .i32 0) 1 4 Try.underlying48 hi hz0 hz1 hz2 rfl (by decide) _ _ _ rfl (hown.alloc _) ⟨wr.heap.size, 0, none⟩ 1 1 [.int .i32 ((dec (l.drop k)).1 : Int)] rfl rfl (new_one _ _ _) (by simp [Value.oneCell']) (by unfold maxLen; omega) (by omega) (by have := hbel.size; simp; omega) ?_; intro v' w1 hown' hgrow _)
      have hB' : Below w.heap.size w w1 := (hbel.alloc hbel.size _).grown hgrow (by have := hbel.size; simp; omega) (fun g hg => (hown.lt g hg).1)
      clear hgrow hown
      go_roundw
      case rel =>
        refine ⟨k + (dec (l.drop k)).2, acc ++ [((dec (l.drop k)).1 : Int)], by omega, by go_num, Lib.hid ?_, by simp; omega, ?_, hB'⟩
        · rw [HR.out, HST.out, List.append_assoc]
          rfl
        · rw [rcells_append, List.length_append]
          exact hown'
      case measure => simp [intOf]; omega
    · have hr : runes l = acc := by
        have := HR.out
        rw [List.drop_of_length_le (by omega), runes_nil, List.append_nil] at this
        exact this
      obtain ⟨A', c', rfl, hcc⟩ := own_shape hown
      have HRR := Lib.hid hr
      clear hr
      go_wp2
      go_ret
      rw [HRR.out]
      exact ⟨A', c', rfl, hcc, hown, hbel⟩

end Go.Proofs.Ytenjhfkdbmljnaa
