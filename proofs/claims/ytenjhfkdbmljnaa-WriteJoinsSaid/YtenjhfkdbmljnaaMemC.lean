/- More words on memory and texts: '[]byte(s)', 'x[:k]', parts of a text, texts that are compared. -/
import Derived.Test.YtenjhfkdbmljnaaMemB
import Derived.Lib.Strings
namespace Go.Proofs.Ytenjhfkdbmljnaa
open Go.RowKit
set_option linter.unusedVariables false

/-- '[]byte(s)': the new row holds s's bytes. -/
theorem sits_new (w : World) (s : ByteArray) (cap : Nat) :
    Sits (w.alloc (.cells (bytesRow s cap) 5 ((bytesRow s cap).size, (bytesRow s cap).size + 1))).drew (w.heap.size + 1) (some ⟨w.heap.size, 0, none⟩) (Lib.byteCells s.data.toList) := by
  intro hp
  refine ⟨w.heap.size, 0, rfl, by omega, fun j u hu => ?_⟩
  show (w.alloc _).cell? _ = _
  rw [World.cell?_alloc_mark, Nat.zero_add]
  have hj : j < s.data.size := by
    have := (List.getElem?_eq_some_iff.1 hu).1
    rw [Lib.byteCells_length] at this
    simpa using this
  rw [bytesRow_at s cap j hj, ← hu]
  unfold Lib.byteCells
  rw [List.getElem?_map, List.getElem?_eq_getElem (by simpa using hj)]
  simp

theorem alloc_drew_below (w : World) (o : Obj) : Below w.heap.size w (w.alloc o).drew := ((Below.refl _ w).alloc (Nat.le_refl _) _).drew

/-- 'x[:k]' within the capacity. -/
theorem cut_head (W : World) (A : Option Addr) (n c k : Nat) (hk : k ≤ c) :
    (Instr.slice 38 (.slice A n c) none (some (.int .i64 (k : Int))) none).run Try.prog W = .ok (.slice A k c) W := by
  have he : Try.prog.elem 38 = 5 := by kernel_rfl
  rw [run_slice_h W 38 A n c (by rw [he]; exact Try.underlying38) .i64 (k : Int) (by omega) (by omega)]
  rw [he, Try.sizeOf5]
  simp only [Result.andThen, sliced, Int.toNat_natCast, Nat.zero_mul, Nat.sub_zero]
  have e : (A.map fun x => x.add 0) = A := by
    cases A with
    | none => rfl
    | some a => rfl
  rw [e]
  split <;> rfl

/-- What is told of a text that was made right, for the calls behind. -/
theorem str_of (r : List UInt8) : ∃ s : ByteArray, (⟨r.toArray⟩ : ByteArray) = s ∧ s.data.toList = r ∧ s.size = r.length := ⟨_, rfl, rfl, rfl⟩

theorem sits_conv {w : World} {s : ByteArray} {r : List UInt8} (h : s.data.toList = r) :
    ∃ w2, (w.alloc (.cells (bytesRow s (grownCap w s.size 0 5)) 5 ((bytesRow s (grownCap w s.size 0 5)).size, (bytesRow s (grownCap w s.size 0 5)).size + 1))).drew = w2 ∧
      Sits w2 w2.heap.size (some ⟨w.heap.size, 0, none⟩) (Lib.byteCells r) ∧ Below w.heap.size w w2 := by
  refine ⟨_, rfl, ?_, alloc_drew_below w _⟩
  have := sits_new w s (grownCap w s.size 0 5)
  rw [h] at this
  simpa using this

theorem drop_extract (s : ByteArray) (pos : Nat) : (s.extract pos s.size).data.toList = s.data.toList.drop pos := by
  rw [Lib.extract_data]
  rw [List.take_of_length_le]
  rw [List.length_drop]
  have : s.data.toList.length = s.size := by simp
  omega

theorem take_extract (s : ByteArray) (n : Nat) : (s.extract 0 n).data.toList = s.data.toList.take n := by
  rw [Lib.extract_data]
  simp

theorem mid_extract (s : ByteArray) (a b : Nat) : (s.extract a b).data.toList = (s.data.toList.drop a).take (b - a) := by rw [Lib.extract_data]

theorem eq_lit (s : ByteArray) (l : List UInt8) : (l == s.toList) = decide (s.data.toList = l) := by
  rw [Lib.toList_data]
  by_cases h : s.data.toList = l
  · rw [h]; simp
  · rw [decide_eq_false h, beq_eq_false_iff_ne]
    exact fun e => h e.symm

theorem str_list (t : ByteArray) : t.size = t.data.toList.length := by simp

end Go.Proofs.Ytenjhfkdbmljnaa
