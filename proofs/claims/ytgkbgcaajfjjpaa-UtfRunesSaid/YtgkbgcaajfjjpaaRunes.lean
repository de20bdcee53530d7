/- utf.Runes: its walk. -/
import Derived.Test.YtgkbgcaajfjjpaaRight
namespace Go.Proofs.Ytgkbgcaajfjjpaa
open Go.RowKit
set_option linter.unusedVariables false

structure RunesAt (w wr : World) (s : ByteArray) (l : List UInt8) (Bi : Nat) (v : Value) (pos : Nat) (acc : List Int) : Prop where
  le : pos ≤ l.length
  is : runes l = acc ++ runes (l.drop pos)
  len : acc.length ≤ pos
  own : wr.ownsRow w.heap.size 21 1 v acc.length (rcells acc)
  it : wr.heap[Bi]? = some (.stringIter s pos)
  bel : Below w.heap.size w wr
  nn : v ≠ .slice none 0 0

theorem own_iterAt {w : World} {base : Nat} {e : TypeId} {z : Nat} {v : Value} {n : Nat} {xs : List Value} (h : w.ownsRow base e z v n xs) {k : Nat} {s : ByteArray} {pos : Nat} (hk : w.heap[k]? = some (.stringIter s pos)) (pos' : Nat) : (w.iterAt k s pos').ownsRow base e z v n xs := by
  refine ⟨h.1, ?_⟩
  rcases h.2 with h2 | ⟨g, cap, cur, hv, hg, hh, r⟩
  · exact .inl h2
  · have hgk : g ≠ k := by
      intro e1
      rw [e1, hk] at hh
      cases hh
    exact .inr ⟨g, cap, cur, hv, hg, (Lib.iterAt_other w k g s pos' hgk).trans hh, r⟩

/-- An iterator stays while an owned row of cells grows. -/
theorem iter_grown {w w2 : World} {v : Value} {base : Nat} {e : TypeId} {n : Nat} {xs : List Value} (hown : w.ownsRow base e 1 v n xs) {k : Nat} {s : ByteArray} {pos : Nat} {o : Obj} (hk : w.heap[k]? = some (.stringIter s pos))
    (hg : (w.alloc o).grownBy w2 v.ownBlock) : w2.heap[k]? = some (.stringIter s pos) := by
  have hlt := (Array.getElem?_eq_some_iff.1 hk).1
  rw [hg.block k (by simp; omega) ?_, Below.heap_alloc w o k hlt]
  · exact hk
  · intro e1
    rcases hown.2 with ⟨rfl, _⟩ | ⟨g, cap, cur, rfl, hg', hh, r⟩
    · cases e1
    · have : k = g := Option.some.inj e1
      rw [this, hh] at hk
      cases hk

theorem own_some {w : World} {base : Nat} {e : TypeId} {v : Value} {n : Nat} {xs : List Value} (h : w.ownsRow base e 1 v n xs) (hnn : v ≠ .slice none 0 0) : ∃ g c, v = .slice (some ⟨g, 0, none⟩) n c ∧ n ≤ c := by
  rcases h.2 with ⟨h1, _⟩ | ⟨g, cap, cur, hv, _, _, hn, _⟩
  · exact absurd h1 hnn
  · exact ⟨g, cap, hv, hn⟩

set_option maxHeartbeats 1000000 in
set_option maxRecDepth 100000 in
theorem runes_some (A : Option Addr) (c : Nat) (l : List UInt8) (w : World) (hs : Sits w w.heap.size A (Lib.byteCells l)) (hm : l.length ≤ 1000000) :
    Calls Try.prog 11 #[.slice A l.length c] w fun e w' => ∃ g c', e = .returned (.slice (some ⟨g, 0, none⟩) (runes l).length c') ∧ (runes l).length ≤ c' ∧
      w'.ownsRow w.heap.size 21 1 (.slice (some ⟨g, 0, none⟩) (runes l).length c') (runes l).length (rcells (runes l)) ∧ Below w.heap.size w w' := by
  obtain ⟨i0, hi, hz0, hz1, hz2⟩ := info_parts info_rune
  have kc := convert_bytes (c := c) hs
  obtain ⟨s, hs'⟩ : ∃ s : ByteArray, s = ⟨l.toArray⟩ := ⟨_, rfl⟩
  rw [← hs'] at kc
  have hsl : s.data.toList = l := by rw [hs']
  have hsz : s.size = l.length := by rw [hs']; rfl
  have HSL := Lib.hid hsl
  have HSZ := Lib.hid hsz
  have hcnt := Lib.runeCount_le s
  have hcnt2 : Lib.runeCount s ≤ 1000000 := by omega
  clear hs' hsl hs hcnt
  have hs63 : s.size < 9223372036854775807 := by omega
  clear hsz
  go_enter Try.func11, Try.ntmps11
  go_wp2_with fail
  refine (Try.utf8_RuneCountInString s _ hs63).mono ?_
  rintro e w1 ⟨rfl, pos0, rfl⟩
  have hB0 : Below w.heap.size w (w.iter s pos0) := (Below.refl _ w).alloc (Nat.le_refl _) _
  obtain ⟨w1, hw1⟩ : ∃ w1, w.iter s pos0 = w1 := ⟨_, rfl⟩
  rw [hw1] at hB0 ⊢
  clear hw1
  obtain ⟨n, hn⟩ : ∃ n, Lib.runeCount s = n := ⟨_, rfl⟩
  rw [hn] at hcnt2 ⊢
  clear hn
  go_wp2_with (at_make; refine wpList_make_own _ rfl _ _ 25 rfl w.heap.size 21 i0 (.int .i32 0) 1 Try.underlying25 hi hz0 hz1 .i64 .i64 (n : Int) n rfl rfl rfl (by rw [hz2]; omega) (by unfold maxLen; omega) hB0.size ?_; intro w2 hown2 hgrow2)
  have hB2 : Below w.heap.size w w2 := hB0.grown hgrow2 hB0.size (fun g hg => by cases hg)
  clear hgrow2
  go_loopw [4] (fun v wr => ∃ (pos : Nat) (acc : List Int), RunesAt w wr s l w2.heap.size v pos acc) (fun _ wr => s.size - wr.iterPos w2.heap.size)
  case atStart => exact ⟨0, [], by omega, by simp, by simp, hown2.alloc _, World.iter_heap w2 s 0, hB2.alloc hB2.size _, by simp⟩
  case round =>
    obtain ⟨pos, acc, HR⟩ := hrel
    have hit := HR.it
    have hle := HR.le
    have hlen := HR.len
    by_cases hp : pos < l.length
    · have hps : pos < s.size := by rw [HSZ.out]; exact hp
      obtain ⟨r, d, hd⟩ : ∃ r d, dec (l.drop pos) = (r, d) := ⟨_, _, rfl⟩
      have hdec : Utf8.decode s pos = (r, d) := by rw [decode_dec, HSL.out, hd]
      have hnx : ∀ ty, (Instr.next (.pointer (some ⟨w2.heap.size, 0, none⟩)) true ty).run Try.prog wr = .ok (.tuple #[.bool true, .int .i64 pos, .int .i32 r]) (wr.iterAt w2.heap.size s (pos + d)) := fun ty => by
        rw [Lib.run_next_any_at wr w2.heap.size s pos ty hit hps, hdec]
      have hw := dec_width (l := l.drop pos) (by rw [List.length_drop]; omega)
      have hst := runes_step (l := l.drop pos) (by rw [List.length_drop]; omega)
      rw [hd] at hw hst
      rw [List.drop_drop] at hst
      rw [List.length_drop] at hw
      simp only at hw hst
      have HST := Lib.hid hst
      have hit2 := Lib.iterAt_heap wr w2.heap.size s pos (pos + d) hit
      have hown3 := own_iterAt HR.own hit (pos + d)
      have hbw2 := Lib.below_iterAt HR.bel (k := w2.heap.size) hB2.size s (pos + d)
      have HIT2 := Lib.hid hit2
      clear hd hdec hst hit hit2
      go_wp2_with (at_builtin; refine wpList_append_own _ rfl _ _ 25 rfl w.heap.size 21 i0 (.int .i32 0) 1 4 Try.underlying25 hi hz0 hz1 hz2 rfl (by decide) _ _ _ rfl (hown3.alloc _) ⟨(wr.iterAt w2.heap.size s (pos + d)).heap.size, 0, none⟩ 1 1 [.int .i32 r] rfl rfl (new_one _ _ _) (by simp [Value.oneCell']) (by unfold maxLen; omega) (by omega) (by have := hbw2.size; simp; omega) ?_; intro v' w3 hown' hgrow hnn')
      have HNN := Lib.hid (fun h => HR.nn (hnn'.1 h).1)
      clear hnn'
      have hB3 : Below w.heap.size w w3 := (hbw2.alloc hbw2.size _).grown hgrow (by have := hbw2.size; simp; omega) (fun g hg => (hown3.lt g hg).1)
      have HIT3 := Lib.hid (iter_grown hown3 HIT2.out hgrow)
      clear hgrow hown3
      go_roundw
      case rel =>
        refine ⟨pos + d, acc ++ [(r : Int)], by omega, ?_, by simp; omega, ?_, HIT3.out, hB3, HNN.out⟩
        · rw [HR.is, HST.out, List.append_assoc]; rfl
        · rw [rcells_append, List.length_append]
          exact hown'
      case measure => simp only [World.iterPos, HIT3.out, HR.it]; have := HSZ.out; omega
    · have hps : ¬ pos < s.size := by rw [HSZ.out]; exact hp
      have hnx : ∀ ty, (Instr.next (.pointer (some ⟨w2.heap.size, 0, none⟩)) true ty).run Try.prog wr = _ := fun ty => Lib.run_next_end_at wr w2.heap.size s pos ty hit hps
      clear hps hit
      have hr : runes l = acc := by
        have := HR.is
        rw [List.drop_of_length_le (by omega), runes_nil, List.append_nil] at this
        exact this
      have HRR := Lib.hid hr
      clear hr
      have hown := HR.own
      obtain ⟨g, c', rfl, hcc⟩ := own_some hown HR.nn
      go_wp2_with fail
      go_ret
      rw [HRR.out]
      exact ⟨g, c', rfl, hcc, hown, HR.bel⟩

theorem runes_any (A : Option Addr) (c : Nat) (l : List UInt8) (w : World) (hs : Sits w w.heap.size A (Lib.byteCells l)) (hm : l.length ≤ 1000000) :
    Calls Try.prog 11 #[.slice A l.length c] w fun e w' => ∃ A' c', e = .returned (.slice A' (runes l).length c') ∧ (runes l).length ≤ c' ∧
      w'.ownsRow w.heap.size 21 1 (.slice A' (runes l).length c') (runes l).length (rcells (runes l)) ∧ Below w.heap.size w w' :=
  (runes_some A c l w hs hm).mono fun _ _ ⟨g, c', h⟩ => ⟨some ⟨g, 0, none⟩, c', h⟩

end Go.Proofs.Ytgkbgcaajfjjpaa
