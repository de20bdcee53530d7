/- strainerlaw01: the walks of UtfRights, UtfFolds. -/
import Derived.Test.YtgkbgcaajfjjpaaLawA
import Derived.Test.YtgkbgcaajfjjpaaPrefix
namespace Go.Proofs.Ytgkbgcaajfjjpaa
open Go.RowKit
set_option linter.unusedVariables false

/-- '[]byte(s)': the new row holds s's bytes. -/
theorem sits_new (w : World) (s : ByteArray) (cap : Nat) :
    Sits (w.alloc (.cells (bytesRow s cap) 5 ((bytesRow s cap).size, (bytesRow s cap).size + 1))).drew (w.heap.size + 1) (some ⟨w.heap.size, 0, none⟩) (Lib.byteCells s.data.toList) := by
  intro hp
  refine ⟨w.heap.size, 0, rfl, by omega, fun j u hu => ?_⟩
  show (w.alloc _).cell? _ = _
  rw [World.cell?_alloc_mark, Nat.zero_add]
  have hj : j < s.data.size := by
    have := (List.getElem?_eq_some_iff.1 hu).1
    rw [Lib.byteCells_length] at this
    simpa using this
  rw [bytesRow_at s cap j hj, ← hu]
  unfold Lib.byteCells
  rw [List.getElem?_map, List.getElem?_eq_getElem (by simpa using hj)]
  simp

theorem right_len (l : List UInt8) : (right l).length ≤ 4 * l.length := by
  have h1 := runes_len _ l (Nat.le_refl _)
  have h2 := norm_len (runes l) 0
  have h3 := enc_len (norm 0 (runes l))
  unfold right
  omega

theorem isB_right (l : List UInt8) : isB (right l) = true := isB_enc _ (norm_ok (runes l) 0 (runes_ok _ l (Nat.le_refl _)))

theorem alloc_drew_below (w : World) (o : Obj) : Below w.heap.size w (w.alloc o).drew := ((Below.refl _ w).alloc (Nat.le_refl _) _).drew

set_option maxHeartbeats 1000000 in
set_option maxRecDepth 100000 in
theorem utfRights_end (A : Option Addr) (n c : Nat) (l : List UInt8) (w : World) (hs : Sits w w.heap.size A (Lib.byteCells l)) (hn : n = l.length) (hc : n ≤ c) (hm : n ≤ maxLen) :
    Calls Try.prog 5 #[.slice A n c] w fun e w' => e = .returned (.bool true) ∧ Below w.heap.size w w' := by
  have hs1 := hs.take 200
  rw [← byteCells_take] at hs1
  have hl : (l.take 200).length ≤ 200 := by rw [List.length_take]; omega
  have hl2 : (l.take 200).length ≤ c := by rw [List.length_take]; omega
  have HN := Lib.hid hn
  clear hn
  have kb := fun (w : World) (s : ByteArray) => run_bytes_of_string (P := Try.prog) w 9 22 5 s Try.underlying9 Try.underlying22 Try.underlying5
  go_enter Try.func5, Try.ntmps5
  go_wp2_with fail
  refine (few_any A n c l w hs HN.out hc (by have := HN.out; omega)).mono ?_
  rintro e w' ⟨rfl, rfl⟩
  generalize l.take 200 = m at *
  clear hs HN
  go_wp2_with fail
  refine (right_any A c m w hs1 (by omega)).mono ?_
  rintro e w1 ⟨rfl, hb1⟩
  have hs2 := (hs1.below hb1).more hb1.size
  go_wp2_with fail
  refine (rightR_any A c m w1 hs2 hl2 (by omega)).mono ?_
  rintro e w2 ⟨rfl, hb2⟩
  have hB2 := below_after hb1 hb2
  have hrl := right_len m
  have hib := Lib.hid (isB_right m)
  have hrr := Lib.hid (right_right m)
  clear hb1 hb2 hs1 hs2
  generalize right m = r at *
  obtain ⟨s, hs⟩ : ∃ s : ByteArray, (⟨r.toArray⟩ : ByteArray) = s := ⟨_, rfl⟩
  rw [hs]
  have hsl : s.data.toList = r := by rw [← hs]
  have hsz : s.size = r.length := by rw [← hs]; rfl
  have HS := Lib.hid hs
  have HSL := Lib.hid hsl
  have HSZ := Lib.hid hsz
  have hsz2 : s.size ≤ 1000000 := by omega
  clear hs hsl hsz
  go_wp2_with fail
  refine (is_any s w2 hsz2).mono ?_
  rw [HSL.out, hib.out]
  rintro e w3 ⟨rfl, hb3⟩
  have hB3 := below_after hB2 hb3
  clear hB2 hb3
  go_wp2_with fail
  have hs4 := sits_new w3 s (grownCap w3 s.size 0 5)
  rw [HSL.out] at hs4
  have hs5 : Sits (w3.alloc (.cells (bytesRow s (grownCap w3 s.size 0 5)) 5 ((bytesRow s (grownCap w3 s.size 0 5)).size, (bytesRow s (grownCap w3 s.size 0 5)).size + 1))).drew
      (w3.alloc (.cells (bytesRow s (grownCap w3 s.size 0 5)) 5 ((bytesRow s (grownCap w3 s.size 0 5)).size, (bytesRow s (grownCap w3 s.size 0 5)).size + 1))).drew.heap.size (some ⟨w3.heap.size, 0, none⟩) (Lib.byteCells r) := by
    simpa using hs4
  have hB4 := below_after hB3 (alloc_drew_below w3 (.cells (bytesRow s (grownCap w3 s.size 0 5)) 5 ((bytesRow s (grownCap w3 s.size 0 5)).size, (bytesRow s (grownCap w3 s.size 0 5)).size + 1)))
  clear hB3 hs4
  generalize (w3.alloc (.cells (bytesRow s (grownCap w3 s.size 0 5)) 5 ((bytesRow s (grownCap w3 s.size 0 5)).size, (bytesRow s (grownCap w3 s.size 0 5)).size + 1))).drew = w4 at *
  rw [HSZ.out]
  refine (right_any _ _ r w4 hs5 (by omega)).mono ?_
  rw [hrr.out, HS.out]
  rintro e w5 ⟨rfl, hb5⟩
  have hB5 := below_after hB4 hb5
  clear hB4 hb5 hs5
  go_wp2_with fail
  refine (lives_any _).mono ?_
  rintro e w6 ⟨rfl, hb6⟩
  have hB6 := below_after hB5 hb6
  go_wp2_with fail
  go_ret
  exact ⟨rfl, hB6⟩

end Go.Proofs.Ytgkbgcaajfjjpaa
