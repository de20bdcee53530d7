/- utf.small, utf.Fold, utf.Prefix: their walks. -/
import Derived.Test.YtgkbgcaajfjjpaaMem
import Derived.Test.YtgkbgcaajfjjpaaMathA
import Derived.WalkKit
import Derived.WalkSpells
import Derived.WalkLawsBesides
import Derived.Lib.Hide
import Derived.Laws.IdiomStrings
namespace Go.Proofs.Ytgkbgcaajfjjpaa
open Go.RowKit
set_option linter.unusedVariables false

set_option maxHeartbeats 400000 in
theorem small_any (u : UInt8) (w : World) :
    Calls Try.prog 29 #[.int .u8 u.toNat] w fun e w' => e = .returned (.int .u8 (lowB u).toNat) ∧ w = w' := by
  have hl := lowB_toNat u
  have hb := u.toNat_lt
  by_cases h1 : 65 ≤ u.toNat
  · by_cases h2 : u.toNat ≤ 90
    · have hl' : ((u.toNat : Int) + 32) = ((lowB u).toNat : Int) := by rw [hl, if_pos ⟨h1, h2⟩]; omega
      have HL := Lib.hid hl'
      clear hl hl'
      go_enter Try.func29, Try.ntmps29
      go_wp2
      go_ret
      exact ⟨ret_int HL.out, rfl⟩
    · have hl' : (u.toNat : Int) = ((lowB u).toNat : Int) := by rw [hl, if_neg (by omega)]
      have HL := Lib.hid hl'
      clear hl hl'
      go_enter Try.func29, Try.ntmps29
      go_wp2
      go_ret
      exact ⟨ret_int HL.out, rfl⟩
  · have hl' : (u.toNat : Int) = ((lowB u).toNat : Int) := by rw [hl, if_neg (by omega)]
    have HL := Lib.hid hl'
    clear hl hl'
    go_enter Try.func29, Try.ntmps29
    go_wp2
    go_ret
    exact ⟨ret_int HL.out, rfl⟩

/-- What holds of the row of bytes after k rounds: the first k are small. -/
def FoldRow (w : World) (B : Nat) (l : List UInt8) (k : Nat) : Prop :=
  ∀ j, (h : j < l.length) → w.cell? ⟨B, j, none⟩ = some (.int .u8 (if j < k then lowB l[j] else l[j]).toNat) ∧ w.frozen? ⟨B, j, none⟩ = false

theorem FoldRow.step {w : World} {B : Nat} {l : List UInt8} {k : Nat} (h : FoldRow w B l k) (hk : k < l.length) :
    FoldRow (w.setCell ⟨B, k, none⟩ (.int .u8 (lowB l[k]).toNat)) B l (k + 1) := by
  intro j hj
  obtain ⟨hc, hf⟩ := h j hj
  by_cases hjk : j = k
  · subst hjk
    refine ⟨?_, by rw [World.frozen?_setCell]; exact hf⟩
    rw [if_pos (by omega)]
    exact World.cell?_setCell_same _ _ _ hc
  · refine ⟨?_, by rw [World.frozen?_setCell]; exact hf⟩
    rw [World.cell?_setCell_other _ _ _ _ (by intro e; injection e; omega), hc]
    by_cases h1 : j < k
    · rw [if_pos h1, if_pos (by omega)]
    · rw [if_neg h1, if_neg (by omega)]

theorem FoldRow.start (w : World) (s : ByteArray) (cap : Nat) :
    FoldRow (w.alloc (.cells (bytesRow s cap) 5 ((bytesRow s cap).size, (bytesRow s cap).size + 1))).drew w.heap.size s.data.toList 0 := by
  intro j hj
  have hj' : j < s.data.size := by simpa using hj
  refine ⟨?_, ?_⟩
  · rw [if_neg (by omega)]
    show (w.alloc _).cell? _ = _
    rw [World.cell?_alloc_mark, bytesRow_at s cap j hj']
    simp
  · show (w.alloc _).frozen? _ = _
    rw [World.frozen?_alloc_mark]
    have : j < (bytesRow s cap).size := by
      rcases Nat.lt_or_ge j (bytesRow s cap).size with h | h
      · exact h
      · have := bytesRow_at s cap j hj'
        rw [Array.getElem?_eq_none h] at this
        cases this
    simp
    omega

theorem FoldRow.done {w : World} {B : Nat} {l : List UInt8} (h : FoldRow w B l l.length) :
    ∀ j (hj : j < (l.map lowB).length), w.cell? ((⟨B, 0, none⟩ : Addr).add j) = some (.int .u8 (((l.map lowB)[j]).toNat : Int)) := by
  intro j hj
  have hj' : j < l.length := by simpa using hj
  have := (h j hj').1
  rw [if_pos hj'] at this
  rw [add_zero_addr, this]
  simp

set_option maxHeartbeats 400000 in
theorem fold_any (s : ByteArray) (w : World) (hs : s.size ≤ maxLen) :
    Calls Try.prog 19 #[.string s] w fun e w' => e = .returned (.string ⟨(s.data.toList.map lowB).toArray⟩) ∧ Below w.heap.size w w' := by
  unfold maxLen at hs
  have hsl : s.data.toList.length = s.size := by simp
  have kb := fun (w : World) (s : ByteArray) => run_bytes_of_string (P := Try.prog) w 9 22 5 s Try.underlying9 Try.underlying22 Try.underlying5
  go_enter Try.func19, Try.ntmps19
  go_wp2
  go_loopw [10] (fun i wr => ∃ k : Nat, k ≤ s.size ∧ i = .int .i64 k ∧ FoldRow wr w.heap.size s.data.toList k ∧ Below w.heap.size w wr) (fun i _ => s.size - (intOf i).toNat)
  case atStart => exact ⟨0, Nat.zero_le _, rfl, FoldRow.start _ _ _, ((Below.refl _ _).alloc (Nat.le_refl _) _).drew⟩
  case round =>
    obtain ⟨k, hk, rfl, hrow, hbel⟩ := hrel
    by_cases hlt : k < s.size
    · have hr := hrow k (by omega)
      have hcell := hr.1
      rw [if_neg (by omega)] at hcell
      have hfr := hr.2
      have hstep := hrow.step (k := k) (by omega)
      clear hr hrow
      obtain ⟨u, hu⟩ : ∃ u, s.data.toList[k]'(by omega) = u := ⟨_, rfl⟩
      rw [hu] at hcell hstep
      clear hu
      go_wp2_with (go_at_call 29; refine (small_any _ _).mono ?_; rintro e w' ⟨rfl, rfl⟩)
      go_roundw
      case rel => exact ⟨k + 1, by omega, by go_num, hstep, hbel.setCell (Nat.le_refl _) _⟩
      case measure => simp [intOf]; omega
    · obtain rfl : k = s.size := by omega
      have kc := run_convert_bytes_back (P := Try.prog) wr 22 9 5 ⟨w.heap.size, 0, none⟩ (grownCap w s.size 0 5) (s.data.toList.map lowB) Try.underlying22 Try.underlying5 Try.underlying9 (FoldRow.done (by rw [hsl]; exact hrow))
      rw [List.length_map, hsl] at kc
      go_wp2
      go_ret
      exact ⟨rfl, hbel⟩

end Go.Proofs.Ytgkbgcaajfjjpaa
