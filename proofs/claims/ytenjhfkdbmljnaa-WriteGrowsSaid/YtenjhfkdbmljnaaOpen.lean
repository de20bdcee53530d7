/- From a row's reading of an argument to the words of the walks: bytes, characters. -/
import Derived.Test.YtenjhfkdbmljnaaMem
import Derived.Test.YtenjhfkdbmljnaaRunesR
import Derived.ProofKit
import Derived.OpenShut
namespace Go.Proofs.Ytenjhfkdbmljnaa
open Go.RowKit Go.ChangeShapes Go.WideShapes Go.ChangeAt
set_option linter.unusedVariables false

theorem knob : ownKnob Try.prog.godebug = none := by kernel_rfl
theorem outlay : laidOutB Try.prog = true := by kernel_rfl

theorem cell_lt {w : World} {p : Addr} {v : Value} (h : w.cell? p = some v) : p.block < w.heap.size := by
  rcases Nat.lt_or_ge p.block w.heap.size with hlt | hge
  · exact hlt
  · unfold World.cell? at h
    rw [Array.getElem?_eq_none hge] at h
    cases h

/-- A row of integers as the reading of an argument gives it, in the walks' words. -/
theorem row_sits {w : World} {x : Addr} {k : IntKind} {len : Nat} {zs : List Int} (hl : len ≤ zs.length) (hcell : ∀ i, i < zs.length → w.cell? (x.add i) = some (.int k (zs.getD i 0))) :
    Sits w w.heap.size (some x) ((zs.take len).map (Value.int k)) := by
  intro hp
  rw [List.length_map, List.length_take] at hp
  have hc0 := hcell 0 (by omega)
  have hs : x.spot = none := by simpa [Addr.add] using World.cell?_spot hc0
  obtain ⟨b, o, sp⟩ := x
  simp only at hs
  subst hs
  refine ⟨b, o, rfl, by simpa [Addr.add] using cell_lt hc0, fun j u hu => ?_⟩
  rw [List.getElem?_map, List.getElem?_take] at hu
  split at hu
  · rename_i hj
    have hcj := hcell j (by omega)
    have e : (⟨b, o, none⟩ : Addr).add j = ⟨b, o + j, none⟩ := by
      unfold Addr.add
      split
      · rename_i h0; subst h0; rfl
      · rfl
    rw [e] at hcj
    rw [hcj]
    rw [List.getD_eq_getElem?_getD]
    cases hz : zs[j]? with
    | none => rw [hz] at hu; cases hu
    | some z => rw [hz] at hu; simpa using hu
  · cases hu

theorem open_bytes {H : Type} {enc : TypeId × Value → H} {w : World} {base : Nat} {spare : Nat → Bool} {held : Bool} {fuel len cap : Nat} {a : Option Addr} {x : DataW H × List MemPlace}
    (h : DataW.trod enc Try.prog w base spare held fuel 38 [.slice a len cap] = some x) (hsp : ∀ b, spare b = true) :
    ∃ l : List UInt8, len = l.length ∧ len ≤ cap ∧ len ≤ maxLen ∧ Sits w w.heap.size a (Lib.byteCells l) := by
  rcases open_ints Try.underlying38 Try.underlying5 (by kernel_rfl) h with ⟨hcs, _⟩ | ⟨y, l, c, zs, hcs, _, hl, hm, hz, _, hcell, hwz⟩
  · simp at hcs
    obtain ⟨rfl, rfl, rfl⟩ := hcs
    exact ⟨[], rfl, Nat.le_refl _, by unfold maxLen; omega, Sits.nil _ _ _⟩
  · simp at hcs
    obtain ⟨rfl, rfl, rfl⟩ := hcs
    rw [hsp, if_pos rfl] at hz
    refine ⟨(zs.take len).map fun n => UInt8.ofNat n.toNat, by simp; omega, hl, by omega, ?_⟩
    have hs := row_sits (len := len) (by omega) hcell
    have e : Lib.byteCells ((zs.take len).map fun n => UInt8.ofNat n.toNat) = (zs.take len).map (Value.int .u8) := by
      unfold Lib.byteCells
      rw [List.map_map]
      apply List.map_congr_left
      intro n hn
      have hb := bounds_u8 (hwz n (List.mem_of_mem_take hn))
      simp
      omega
    rw [e]
    exact hs

theorem open_runes {H : Type} {enc : TypeId × Value → H} {w : World} {base : Nat} {spare : Nat → Bool} {held : Bool} {fuel len cap : Nat} {a : Option Addr} {x : DataW H × List MemPlace}
    (h : DataW.trod enc Try.prog w base spare held fuel 48 [.slice a len cap] = some x) (hsp : ∀ b, spare b = true) :
    ∃ l : List Int, len = l.length ∧ len ≤ cap ∧ len ≤ maxLen ∧ (∀ r ∈ l, -2147483648 ≤ r ∧ r ≤ 2147483647) ∧ Sits w w.heap.size a (rcells l) := by
  rcases open_ints Try.underlying48 Try.underlying21 (by kernel_rfl) h with ⟨hcs, _⟩ | ⟨y, l, c, zs, hcs, _, hl, hm, hz, _, hcell, hwz⟩
  · simp at hcs
    obtain ⟨rfl, rfl, rfl⟩ := hcs
    exact ⟨[], rfl, Nat.le_refl _, by unfold maxLen; omega, (fun r hr => by cases hr), Sits.nil _ _ _⟩
  · simp at hcs
    obtain ⟨rfl, rfl, rfl⟩ := hcs
    rw [hsp, if_pos rfl] at hz
    exact ⟨zs.take len, by simp; omega, hl, by omega, fun r hr => bounds_i32 (hwz r (List.mem_of_mem_take hr)), row_sits (len := len) (by omega) hcell⟩

end Go.Proofs.Ytenjhfkdbmljnaa
