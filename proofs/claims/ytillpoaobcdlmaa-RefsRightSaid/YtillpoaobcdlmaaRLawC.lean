/- strainerlaw02.RefsRight: its walk. -/
import Derived.Test.YtillpoaobcdlmaaRLawA
import Derived.Test.YtillpoaobcdlmaaRightR
import Derived.Test.YtillpoaobcdlmaaIs
namespace Go.Proofs.Ytillpoaobcdlmaa
open Go.RowKit
set_option linter.unusedVariables false

theorem right_dec (l : List UInt8) : isB (decB (right l)) = true := by
  obtain ⟨L', h, e⟩ := dec_right _ (norm 0 (runes l)) (Nat.le_refl _) (norm_ok (runes l) 0 (runes_ok _ l (Nat.le_refl _)))
  unfold right
  rw [e]
  exact isB_enc _ h
theorem right_esc (l : List UInt8) : isB (escB true (right l)) = true := by
  obtain ⟨L', h, e⟩ := esc_right true (norm 0 (runes l)) (norm_ok (runes l) 0 (runes_ok _ l (Nat.le_refl _)))
  unfold right
  rw [e]
  exact isB_enc _ h

set_option maxHeartbeats 2000000 in
set_option maxRecDepth 100000 in
theorem refsRight_end (A : Option Addr) (n c : Nat) (l : List UInt8) (w : World) (hs : Sits w w.heap.size A (Lib.byteCells l)) (hn : n = l.length) (hc : n ≤ c) (hm : n ≤ maxLen) :
    Calls Try.prog 4 #[.slice A n c] w fun e w' => e = .returned (.bool true) ∧ Below w.heap.size w w' := by
  subst hn
  have kb := fun (w : World) (s : ByteArray) => run_bytes_of_string (P := Try.prog) w 9 26 5 s Try.underlying9 Try.underlying26 Try.underlying5
  have kc := convert_bytes (c := c) hs
  obtain ⟨s0, hs0, hs0l, hs0z⟩ := str_of l
  rw [hs0] at kc
  have hf := few2_any s0 w (by omega)
  have hz := fewS_size s0
  obtain ⟨s, hss⟩ : ∃ s, fewS s0 = s := ⟨_, rfl⟩
  rw [hss] at hf hz
  obtain ⟨m, hml⟩ : ∃ m, s.data.toList = m := ⟨_, rfl⟩
  have hmz : s.size = m.length := by rw [← hml]; simp
  have HF := Lib.hid hf
  have HML := Lib.hid hml
  have HMZ := Lib.hid hmz
  have hm2 : m.length ≤ 200 := by omega
  have hrl := right_len m
  have h1 := right_dec m
  have h2 := right_esc m
  have h3 := decB_len _ (right m) (Nat.le_refl _)
  have h4 := escB_len true (right m)
  clear hs0 hs0l hs0z hf hss hml hmz
  go_enter Try.func4, Try.ntmps4
  go_wp2_with fail
  refine HF.out.mono ?_
  rintro e w1 ⟨rfl, rfl⟩
  go_wp2_with fail
  obtain ⟨w2, hw2, sits2, hb2⟩ := sits_conv (w := w) HML.out
  rw [hw2]
  have hcap := grownCap_ge w s.size 0 5
  rw [HMZ.out] at hcap ⊢
  clear hw2
  refine (rightR_any _ _ m w2 sits2 hcap (by omega)).mono ?_
  rintro e w3 ⟨rfl, hb3⟩
  have hB3 := below_after hb2 hb3
  generalize right m = r at *
  obtain ⟨t, ht, htl, htz⟩ := str_of r
  rw [ht]
  obtain ⟨d, hd, hdl, hdz⟩ := str_of (decB r)
  obtain ⟨q, hq, hql, hqz⟩ := str_of (escB true r)
  have hdt : (⟨(decB t.data.toList).toArray⟩ : ByteArray) = d := by rw [htl, hd]
  have hqt : (⟨(escB true t.data.toList).toArray⟩ : ByteArray) = q := by rw [htl, hq]
  have htz2 : t.size ≤ 800 := by omega
  have hdz2 : d.size ≤ 800 := by omega
  have hqz2 : q.size ≤ 4800 := by omega
  rw [← hdl] at h1
  rw [← hql] at h2
  have H1 := Lib.hid h1
  have H2 := Lib.hid h2
  have HD := Lib.hid hdt
  have HQ := Lib.hid hqt
  clear h1 h2 hdt hqt ht htl htz hd hdl hdz hq hql hqz hb2 hb3 sits2 hcap kc hs
  go_wp2_with fail
  refine (decode_any t _ (by omega)).mono ?_
  rw [HD.out]
  rintro e w4 ⟨rfl, hb4⟩
  have hB4 := below_after hB3 hb4
  clear hB3 hb4
  go_wp2_with fail
  refine (is_any d _ (by omega)).mono ?_
  rw [H1.out]
  rintro e w5 ⟨rfl, hb5⟩
  have hB5 := below_after hB4 hb5
  clear hB4 hb5
  go_wp2_with fail
  refine (escape_any t true _ (by omega)).mono ?_
  rw [HQ.out]
  rintro e w6 ⟨rfl, hb6⟩
  have hB6 := below_after hB5 hb6
  clear hB5 hb6
  go_wp2_with fail
  refine (is_any q _ (by omega)).mono ?_
  rw [H2.out]
  rintro e w7 ⟨rfl, hb7⟩
  have hB7 := below_after hB6 hb7
  clear hB6 hb7
  go_wp2_with fail
  refine (lives2_any _).mono ?_
  rintro e w8 ⟨rfl, hb8⟩
  have hB8 := below_after hB7 hb8
  go_wp2_with fail
  go_ret
  exact ⟨rfl, hB8⟩

end Go.Proofs.Ytillpoaobcdlmaa
