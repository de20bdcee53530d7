/- strainerlaw01: the walk of UtfRound. -/
import Derived.Test.YtgkbgcaajfjjpaaLawB
namespace Go.Proofs.Ytgkbgcaajfjjpaa
open Go.RowKit
set_option linter.unusedVariables false

theorem enc_ge : ∀ l : List Int, l.length ≤ (enc l).length
  | [] => by simp [enc]
  | r :: l => by
    have := (Lib.encodeRuneZ_length r).1
    have ih := enc_ge l
    rw [enc_cons, List.length_append, List.length_cons]
    have h : (Lib.encodeRune r).length = (Lib.encodeRuneZ r).length := by simp [Lib.encodeRune]
    omega

structure RoundAt (w wr : World) (v : Value) (k : Nat) (acc : List Int) : Prop where
  len : acc.length ≤ k
  ok : ∀ r ∈ acc, okR r
  own : wr.ownsRow w.heap.size 21 1 v acc.length (rcells acc)
  bel : Below w.heap.size w wr

theorem RoundAt.put {w wr w2 : World} {v v' : Value} {k : Nat} {acc : List Int} {x : Int} {o : Obj} (h : RoundAt w wr v k acc) (hx : okR x)
    (hown : w2.ownsRow w.heap.size 21 1 v' (acc.length + 1) (rcells acc ++ [.int .i32 x])) (hg : (wr.alloc o).grownBy w2 v.ownBlock) : RoundAt w w2 v' (k + 1) (acc ++ [x]) := by
  refine ⟨by have := h.len; simp; omega, ?_, ?_, ?_⟩
  · intro r hr
    rcases List.mem_append.1 hr with h1 | h1
    · exact h.ok r h1
    · simp at h1; subst h1; exact hx
  · rw [rcells_append, List.length_append]
    exact hown
  · exact (h.bel.alloc h.bel.size _).grown hg (by have := h.bel.size; simp; omega) (fun g hg => (h.own.lt g hg).1)

theorem RoundAt.pass {w wr : World} {v : Value} {k : Nat} {acc : List Int} (h : RoundAt w wr v k acc) : RoundAt w wr v (k + 1) acc := ⟨by have := h.len; omega, h.ok, h.own, h.bel⟩

set_option maxHeartbeats 4000000 in
set_option maxRecDepth 100000 in
theorem utfRound_end (A : Option Addr) (n c : Nat) (l : List Int) (w : World) (hs : Sits w w.heap.size A (rcells l)) (hn : n = l.length) (hc : n ≤ c) (hm : n ≤ maxLen) (h32 : i32s l) :
    Calls Try.prog 6 #[.slice A n c] w fun e w' => e = .returned (.bool true) ∧ Below w.heap.size w w' := by
  obtain ⟨i0, hi, hz0, hz1, hz2⟩ := info_parts info_rune
  have kb := fun (w : World) (s : ByteArray) => run_bytes_of_string (P := Try.prog) w 9 22 5 s Try.underlying9 Try.underlying22 Try.underlying5
  subst hn
  unfold maxLen at hm
  have HS := Lib.hid hs
  have H32 := Lib.hid h32
  clear hs h32
  go_enter Try.func6, Try.ntmps6
  go_wp2_with fail
  go_loopw [3, 4] (fun v i wr => ∃ (k : Nat) (acc : List Int), k ≤ 60 ∧ i = .int .i64 k ∧ RoundAt w wr v k acc) (fun _ i _ => 60 - (intOf i).toNat)
  case atStart => exact ⟨0, [], by omega, rfl, by simp, (fun r hr => by cases hr), World.ownsRow_nil _ _ _ _, Below.refl _ _⟩
  case round =>
    obtain ⟨k, acc, hk, rfl, HR⟩ := hrel
    have hlen := HR.len
    by_cases hin : k < l.length ∧ k < 60
    · obtain ⟨hlt, h60⟩ := hin
      obtain ⟨b, o, rfl, hb, hcell⟩ := HS.out.open_ (by rw [rcells_length]; omega)
      obtain ⟨x, hx⟩ : ∃ x, l[k]? = some x := ⟨_, List.getElem?_eq_getElem hlt⟩
      have q1 : wr.cell? ⟨b, o + k, none⟩ = some (.int .i32 x) := (HR.bel.cell (p := ⟨b, o + k, none⟩) hb).trans (hcell k _ (by simp [rcells, hx]))
      have hx32 := i32s_at H32.out hx
      clear hx hcell
      rcases (show x < 0 ∨ (55296 ≤ x ∧ x ≤ 57343) ∨ 1114111 < x ∨ (0 ≤ x ∧ x < 55296) ∨ (57343 < x ∧ x ≤ 1114111) by omega) with h1 | ⟨h1, h2⟩ | h1 | ⟨h1, h2⟩ | ⟨h1, h2⟩
      · go_wp2_with fail
        go_roundw
        case rel => exact ⟨k + 1, acc, by omega, by go_num, HR.pass⟩
        case measure => simp [intOf]; omega
      · go_wp2_with fail
        go_roundw
        case rel => exact ⟨k + 1, acc, by omega, by go_num, HR.pass⟩
        case measure => simp [intOf]; omega
      · go_wp2_with fail
        go_roundw
        case rel => exact ⟨k + 1, acc, by omega, by go_num, HR.pass⟩
        case measure => simp [intOf]; omega
      all_goals
        have HX : Hid (okR x) := Lib.hid (by unfold okR; omega)
        go_wp2_with (at_builtin; refine wpList_append_own _ rfl _ _ 25 rfl w.heap.size 21 i0 (.int .i32 0) 1 4 Try.underlying25 hi hz0 hz1 hz2 rfl (by decide) _ _ _ rfl (HR.own.alloc _) ⟨wr.heap.size, 0, none⟩ 1 1 [.int .i32 x] rfl rfl (new_one _ _ _) (by simp [Value.oneCell']) (by unfold maxLen; omega) (by omega) (by have := HR.bel.size; simp; omega) ?_; intro v' w2 hown' hgrow _)
        have HR2 := HR.put HX.out hown' hgrow
        clear hgrow hown'
        go_roundw
        case rel => exact ⟨k + 1, acc ++ [x], by omega, by go_num, HR2⟩
        case measure => simp [intOf]; omega
    · obtain ⟨A', c', rfl, hcc⟩ := own_shape HR.own
      have h32 := okR_i32 HR.ok
      have hsit := Lib.hid (Sits.own HR.own)
      have hge := enc_ge acc
      have hle4 := enc_len acc
      have hre := Lib.hid (runes_enc acc HR.ok)
      have hbel := HR.bel
      clear HR hi hz0 hz1 hz2
      rcases (show (k < l.length ∧ 60 ≤ k) ∨ l.length ≤ k by omega) with ⟨h1, h2⟩ | h1
      all_goals
        clear hin
        go_wp2_with fail
        refine (text_any A' c' acc wr hsit.out (by omega) h32).mono ?_
        rintro e w1 ⟨rfl, hb1⟩
        have hB1 := below_after hbel hb1
        have hsit2 := Lib.hid (((hsit.out).below hb1).more hb1.size)
        obtain ⟨s, hs⟩ : ∃ s : ByteArray, (⟨(enc acc).toArray⟩ : ByteArray) = s := ⟨_, rfl⟩
        rw [hs]
        have hsl : s.data.toList = enc acc := by rw [← hs]
        have hsz : s.size = (enc acc).length := by rw [← hs]; rfl
        have HSL := Lib.hid hsl
        have HSZ := Lib.hid hsz
        clear hs hsl hb1
        have hge2 : acc.length ≤ s.size := by omega
        clear hsz
        go_wp2_with fail
        have hs4 := sits_new w1 s (grownCap w1 s.size 0 5)
        rw [HSL.out] at hs4
        have hs5 : Sits (w1.alloc (.cells (bytesRow s (grownCap w1 s.size 0 5)) 5 ((bytesRow s (grownCap w1 s.size 0 5)).size, (bytesRow s (grownCap w1 s.size 0 5)).size + 1))).drew
            (w1.alloc (.cells (bytesRow s (grownCap w1 s.size 0 5)) 5 ((bytesRow s (grownCap w1 s.size 0 5)).size, (bytesRow s (grownCap w1 s.size 0 5)).size + 1))).drew.heap.size (some ⟨w1.heap.size, 0, none⟩) (Lib.byteCells (enc acc)) := by
          simpa using hs4
        have hab := alloc_drew_below w1 (.cells (bytesRow s (grownCap w1 s.size 0 5)) 5 ((bytesRow s (grownCap w1 s.size 0 5)).size, (bytesRow s (grownCap w1 s.size 0 5)).size + 1))
        generalize (w1.alloc (.cells (bytesRow s (grownCap w1 s.size 0 5)) 5 ((bytesRow s (grownCap w1 s.size 0 5)).size, (bytesRow s (grownCap w1 s.size 0 5)).size + 1))).drew = w2 at *
        have hB2 := below_after hB1 hab
        have hsit3 := (hsit2.out.below hab).more hab.size
        clear hs4 hab
        rw [HSZ.out]
        refine (runes_any _ _ (enc acc) w2 hs5 (by omega)).mono ?_
        rw [hre.out, ← HSZ.out]
        rintro e w3 ⟨A3, c3, rfl, hc3, hown3, hb3⟩
        have hB3 := below_after hB2 hb3
        have hsit4 := (hsit3.below hb3).more hb3.size
        have hsit5 := Sits.own hown3
        clear hown3 hb3 hsit3 hs5
        go_wp2_with fail
        refine (same_any A3 A' c3 c' acc acc w3 hsit5 hsit4 (by unfold maxLen; omega) (by unfold maxLen; omega)).mono ?_
        rw [decide_eq_true (rfl : acc = acc)]
        rintro e w4 ⟨rfl, hb4⟩
        have hB4 := below_after hB3 hb4
        go_wp2_with fail
        refine (lives_any _).mono ?_
        rintro e w5 ⟨rfl, hb5⟩
        have hB5 := below_after hB4 hb5
        go_wp2_with fail
        go_ret
        exact ⟨rfl, hB5⟩

end Go.Proofs.Ytgkbgcaajfjjpaa
