/- Parts of the proof, in build order: One RunesR BytesR MemC Tree. -/
import Derived.Test.YthmnnalamaponaaGreatK01
import Derived.Lib.Strings
import Derived.ArgAppend
import Derived.OwnWalk
import Derived.Laws.OwnMore

/- Part One. -/
namespace Go.Proofs.YthmnnalamaponaaGreat
open Go.RowKit
set_option linter.unusedVariables false

/-- Is it a byte that goes on? -/
def folB (x : Nat) : Bool := decide (128 ≤ x ∧ x < 192)

theorem folB_cont {l : List UInt8} {j : Nat} (h : j < l.length) : cont l j = folB (byt l j) := by
  unfold cont folB
  rw [Bool.eq_iff_iff]
  simp
  omega

/-- What has been reckoned after the bytes ahead of the k-th. -/
def oneV (l : List UInt8) (v0 : Int) : Nat → Int
  | 0 => v0
  | 1 => v0
  | k + 2 => 64 * oneV l v0 (k + 1) + byt l (k + 1) - 128

theorem oneV_step (l : List UInt8) (v0 : Int) {k : Nat} (h : 1 ≤ k) : oneV l v0 (k + 1) = 64 * oneV l v0 k + byt l k - 128 := by
  obtain ⟨m, rfl⟩ : ∃ m, k = m + 1 := ⟨k - 1, by omega⟩
  rfl

theorem oneV_bd (l : List UInt8) (v0 : Int) (h0 : 0 ≤ v0) (h1 : v0 ≤ 31) : ∀ k, k ≤ 4 → -1000000 ≤ oneV l v0 k ∧ oneV l v0 k ≤ 20000000
  | 0, _ => by show -1000000 ≤ v0 ∧ v0 ≤ 20000000; omega
  | 1, _ => by show -1000000 ≤ v0 ∧ v0 ≤ 20000000; omega
  | 2, _ => by
    have b1 := byt_lt l 1
    show -1000000 ≤ 64 * v0 + byt l 1 - 128 ∧ 64 * v0 + byt l 1 - 128 ≤ 20000000
    omega
  | 3, _ => by
    have b1 := byt_lt l 1
    have b2 := byt_lt l 2
    show -1000000 ≤ 64 * (64 * v0 + byt l 1 - 128) + byt l 2 - 128 ∧ 64 * (64 * v0 + byt l 1 - 128) + byt l 2 - 128 ≤ 20000000
    omega
  | 4, _ => by
    have b1 := byt_lt l 1
    have b2 := byt_lt l 2
    have b3 := byt_lt l 3
    show -1000000 ≤ 64 * (64 * (64 * v0 + byt l 1 - 128) + byt l 2 - 128) + byt l 3 - 128 ∧ 64 * (64 * (64 * v0 + byt l 1 - 128) + byt l 2 - 128) + byt l 3 - 128 ≤ 20000000
    omega
  | k + 5, h => by omega

theorem ret_two {k k' : IntKind} {a b c d : Int} (h : a = b) (h' : c = d) : Ending.returned (.tuple #[.int k a, .int k' c]) = .returned (.tuple #[.int k b, .int k' d]) := by rw [h, h']

theorem folB_yes {x : Nat} (h : 128 ≤ x ∧ x < 192) : folB x = true := by unfold folB; exact decide_eq_true h
theorem folB_no {x : Nat} (h : ¬ (128 ≤ x ∧ x < 192)) : folB x = false := by unfold folB; exact decide_eq_false h

set_option maxHeartbeats 400000 in
theorem follows_any (x : Nat) (w : World) (hx : x < 256) :
    Calls Tryz.prog 73 #[.int .u8 x] w fun e w' => e = .returned (.bool (folB x)) ∧ w = w' := by
  by_cases h1 : 128 ≤ x
  · by_cases h2 : x < 192
    · have hd := Lib.hid (folB_yes ⟨h1, h2⟩)
      go_enter Tryz.func73, Tryz.ntmps73
      go_wp2
      go_ret
      exact ⟨by rw [hd.out]; simp [go_sem]; omega, rfl⟩
    · have hd := Lib.hid (folB_no (x := x) (by omega))
      go_enter Tryz.func73, Tryz.ntmps73
      go_wp2
      go_ret
      exact ⟨by rw [hd.out]; simp [go_sem]; omega, rfl⟩
  · have hd := Lib.hid (folB_no (x := x) (by omega))
    go_enter Tryz.func73, Tryz.ntmps73
    go_wp2
    go_ret
    exact ⟨by rw [hd.out]; rfl, rfl⟩

theorem dec_low {l : List UInt8} (h : byt l 0 < 128) : dec l = (byt l 0, 1) := by unfold dec; rw [if_pos h]
theorem dec_none {l : List UInt8} (h : (128 ≤ byt l 0 ∧ byt l 0 < 192) ∨ 248 ≤ byt l 0) : dec l = (65533, 1) := by
  have b0 := byt_lt l 0
  unfold dec
  rw [if_neg (by omega), if_neg (by omega), if_neg (by omega), if_neg (by omega)]

theorem cont_short {l : List UInt8} {j : Nat} (h : ¬ j < l.length) : cont l j = false := by
  unfold cont
  simp
  omega

theorem dec_stop2 {l : List UInt8} (h1 : 192 ≤ byt l 0) (h2 : byt l 0 < 224) {j : Nat} (hj : 1 ≤ j) (hj' : j < 2) (hk : cont l j = false) : dec l = (65533, 1) := by
  obtain rfl : j = 1 := by omega
  unfold dec
  rw [if_neg (by omega), if_neg (by rw [hk]; simp), if_neg (by omega), if_neg (by omega)]

theorem dec_all2 {l : List UInt8} (h1 : 192 ≤ byt l 0) (h2 : byt l 0 < 224) (hl : 2 ≤ l.length) (c1 : folB (byt l 1) = true) :
    dec l = if (oneV l ((byt l 0 : Int) - 192) 2 < 128 ∨ 1114111 < oneV l ((byt l 0 : Int) - 192) 2 ∨ (55296 ≤ oneV l ((byt l 0 : Int) - 192) 2 ∧ oneV l ((byt l 0 : Int) - 192) 2 ≤ 57343)) then (65533, 1) else ((oneV l ((byt l 0 : Int) - 192) 2).toNat, 2) := by
  have k1 : cont l 1 = true := (folB_cont (by omega)).trans c1
  have f1 : 128 ≤ byt l 1 ∧ byt l 1 < 192 := of_decide_eq_true c1
  have e : oneV l ((byt l 0 : Int) - 192) 2 = 64 * ((byt l 0 : Int) - 192) + byt l 1 - 128 := rfl
  rw [e]
  clear e
  unfold dec
  rw [if_neg (by omega), if_pos ⟨by omega, k1⟩]
  split
  · rw [if_neg (by omega)]
    simp only [Prod.mk.injEq, and_true]
    omega
  · rw [if_pos (by omega)]

set_option maxHeartbeats 1000000 in
set_option maxRecDepth 100000 in
theorem one_2 (b o c : Nat) (l : List UInt8) (w : World) (hcell : ∀ j, j < l.length → w.cell? ⟨b, o + j, none⟩ = some (.int .u8 (byt l j))) (hm : l.length ≤ maxLen) (hp : 0 < l.length)
    (h1 : 192 ≤ byt l 0) (h2 : byt l 0 < 224) :
    Calls Tryz.prog 62 #[.slice (some ⟨b, o, none⟩) l.length c] w fun e w' => e = .returned (.tuple #[.int .i32 (dec l).1, .int .i64 (dec l).2]) ∧ w = w' := by
  unfold maxLen at hm
  have hc0 : w.cell? ⟨b, o, none⟩ = some (.int .u8 (byt l 0)) := hcell 0 hp
  have HC := Lib.hid hcell
  clear hcell
  by_cases hs : l.length < 2
  · have HD := Lib.hid (dec_stop2 h1 h2 (j := 1) (by omega) (by omega) (cont_short (by omega)))
    go_enter Tryz.func62, Tryz.ntmps62
    go_wp2
    go_ret2
    exact ⟨by rw [HD.out]; rfl, rfl⟩
  · have B1 : decide ((byt l 0 : Int) < 128) = false := by simp; omega
    have B224 : decide ((byt l 0 : Int) < 224) = true := by simp; omega
    have BL : decide ((l.length : Int) < 2) = false := by simp; omega
    go_enter Tryz.func62, Tryz.ntmps62
    go_wp2
    go_loop [6, 8] (fun v i => ∃ k : Nat, 1 ≤ k ∧ k ≤ 2 ∧ i = .int .i64 k ∧ v = .int .i64 (oneV l ((byt l 0 : Int) - 192) k) ∧ Hid (∀ j, 1 ≤ j → j < k → folB (byt l j) = true)) (fun _ i => 2 - (intOf i).toNat)
    case atStart => exact ⟨1, by omega, by omega, rfl, rfl, Lib.hid (fun j _ _ => by omega)⟩
    case round =>
      obtain ⟨k, hk1, hk2, rfl, rfl, HA⟩ := hrel
      have hv := oneV_bd l ((byt l 0 : Int) - 192) (by omega) (by omega) k (by omega)
      by_cases hlt : k < 2
      · have hck := HC.out k (by omega)
        have hb := byt_lt l k
        have hst := oneV_step l ((byt l 0 : Int) - 192) hk1
        by_cases hf : folB (byt l k) = true
        · have hst' := hst.symm
          have HST := Lib.hid hst'
          have HF := Lib.hid hf
          clear hst hst'
          go_wp2_with (go_at_call 73; refine (follows_any _ _ hb).mono ?_; rintro e w' ⟨rfl, rfl⟩)
          go_round
          case rel =>
            refine ⟨k + 1, by omega, by omega, by go_num, by rw [← HST.out], Lib.hid (fun j ha hb' => ?_)⟩
            by_cases hj : j = k
            · rw [hj]; exact HF.out
            · exact HA.out j ha (by omega)
          case measure => simp [intOf]; omega
        · have hf' : folB (byt l k) = false := by simpa using hf
          have HD := Lib.hid (dec_stop2 h1 h2 hk1 hlt ((folB_cont (by omega)).trans hf'))
          clear hst hf
          go_wp2_with (go_at_call 73; refine (follows_any _ _ hb).mono ?_; rintro e w' ⟨rfl, rfl⟩)
          go_ret2
          exact ⟨by rw [HD.out]; rfl, rfl⟩
      · obtain rfl : k = 2 := by omega
        have hd := dec_all2 h1 h2 (by omega) (HA.out 1 (by omega) (by omega))
        generalize oneV l ((byt l 0 : Int) - 192) 2 = V at *
        by_cases hbad : (V < 128 ∨ 1114111 < V ∨ (55296 ≤ V ∧ V ≤ 57343))
        · rw [if_pos hbad] at hd
          have HD := Lib.hid hd
          clear hd
          rcases hbad with hb1 | hb1 | hb1
          · go_wp2
            go_ret2
            exact ⟨by rw [HD.out]; rfl, rfl⟩
          · have hb0 : ¬ V < 128 := by omega
            go_wp2
            go_ret2
            exact ⟨by rw [HD.out]; rfl, rfl⟩
          · obtain ⟨hb2, hb3⟩ := hb1
            have hb1 : ¬ 1114111 < V := by omega
            by_cases hb0 : V < 128
            · go_wp2
              go_ret2
              exact ⟨by rw [HD.out]; rfl, rfl⟩
            · go_wp2
              go_ret2
              exact ⟨by rw [HD.out]; rfl, rfl⟩
        · rw [if_neg hbad] at hd
          have HD := Lib.hid hd
          clear hd
          have g1 : 128 ≤ V := by omega
          have g2 : V ≤ 1114111 := by omega
          by_cases g3 : 55296 ≤ V
          · have g4 : 57343 < V := by omega
            go_wp2
            go_ret2
            exact ⟨by rw [HD.out]; exact ret_two (by simp; omega) rfl, rfl⟩
          · go_wp2
            go_ret2
            exact ⟨by rw [HD.out]; exact ret_two (by simp; omega) rfl, rfl⟩

theorem dec_stop3 {l : List UInt8} (h1 : 224 ≤ byt l 0) (h2 : byt l 0 < 240) {j : Nat} (hj : 1 ≤ j) (hj' : j < 3) (hk : cont l j = false) : dec l = (65533, 1) := by
  have : j = 1 ∨ j = 2 := by omega
  unfold dec
  rw [if_neg (by omega), if_neg (by omega)]
  rw [if_neg (by rcases this with rfl | rfl <;> (rw [hk]; simp)), if_neg (by omega)]

theorem dec_all3 {l : List UInt8} (h1 : 224 ≤ byt l 0) (h2 : byt l 0 < 240) (hl : 3 ≤ l.length) (c1 : folB (byt l 1) = true) (c2 : folB (byt l 2) = true) :
    dec l = if (oneV l ((byt l 0 : Int) - 224) 3 < 2048 ∨ 1114111 < oneV l ((byt l 0 : Int) - 224) 3 ∨ (55296 ≤ oneV l ((byt l 0 : Int) - 224) 3 ∧ oneV l ((byt l 0 : Int) - 224) 3 ≤ 57343)) then (65533, 1) else ((oneV l ((byt l 0 : Int) - 224) 3).toNat, 3) := by
  have k1 : cont l 1 = true := (folB_cont (by omega)).trans c1
  have f1 : 128 ≤ byt l 1 ∧ byt l 1 < 192 := of_decide_eq_true c1
  have k2 : cont l 2 = true := (folB_cont (by omega)).trans c2
  have f2 : 128 ≤ byt l 2 ∧ byt l 2 < 192 := of_decide_eq_true c2
  have e : oneV l ((byt l 0 : Int) - 224) 3 = 64 * (64 * ((byt l 0 : Int) - 224) + byt l 1 - 128) + byt l 2 - 128 := rfl
  rw [e]
  clear e
  unfold dec
  rw [if_neg (by omega), if_neg (by omega), if_pos ⟨by omega, k1, k2⟩]
  split
  · rw [if_neg (by omega)]
    simp only [Prod.mk.injEq, and_true]
    omega
  · rw [if_pos (by omega)]

set_option maxHeartbeats 1000000 in
set_option maxRecDepth 100000 in
theorem one_3 (b o c : Nat) (l : List UInt8) (w : World) (hcell : ∀ j, j < l.length → w.cell? ⟨b, o + j, none⟩ = some (.int .u8 (byt l j))) (hm : l.length ≤ maxLen) (hp : 0 < l.length)
    (h1 : 224 ≤ byt l 0) (h2 : byt l 0 < 240) :
    Calls Tryz.prog 62 #[.slice (some ⟨b, o, none⟩) l.length c] w fun e w' => e = .returned (.tuple #[.int .i32 (dec l).1, .int .i64 (dec l).2]) ∧ w = w' := by
  unfold maxLen at hm
  have hc0 : w.cell? ⟨b, o, none⟩ = some (.int .u8 (byt l 0)) := hcell 0 hp
  have HC := Lib.hid hcell
  clear hcell
  by_cases hs : l.length < 3
  · have HD := Lib.hid (dec_stop3 h1 h2 (j := 2) (by omega) (by omega) (cont_short (by omega)))
    go_enter Tryz.func62, Tryz.ntmps62
    go_wp2
    go_ret2
    exact ⟨by rw [HD.out]; rfl, rfl⟩
  · have B1 : decide ((byt l 0 : Int) < 128) = false := by simp; omega
    have B224 : decide ((byt l 0 : Int) < 224) = false := by simp; omega
    have B240 : decide ((byt l 0 : Int) < 240) = true := by simp; omega
    have BL : decide ((l.length : Int) < 3) = false := by simp; omega
    go_enter Tryz.func62, Tryz.ntmps62
    go_wp2
    go_loop [6, 8] (fun v i => ∃ k : Nat, 1 ≤ k ∧ k ≤ 3 ∧ i = .int .i64 k ∧ v = .int .i64 (oneV l ((byt l 0 : Int) - 224) k) ∧ Hid (∀ j, 1 ≤ j → j < k → folB (byt l j) = true)) (fun _ i => 3 - (intOf i).toNat)
    case atStart => exact ⟨1, by omega, by omega, rfl, rfl, Lib.hid (fun j _ _ => by omega)⟩
    case round =>
      obtain ⟨k, hk1, hk2, rfl, rfl, HA⟩ := hrel
      have hv := oneV_bd l ((byt l 0 : Int) - 224) (by omega) (by omega) k (by omega)
      by_cases hlt : k < 3
      · have hck := HC.out k (by omega)
        have hb := byt_lt l k
        have hst := oneV_step l ((byt l 0 : Int) - 224) hk1
        by_cases hf : folB (byt l k) = true
        · have hst' := hst.symm
          have HST := Lib.hid hst'
          have HF := Lib.hid hf
          clear hst hst'
          go_wp2_with (go_at_call 73; refine (follows_any _ _ hb).mono ?_; rintro e w' ⟨rfl, rfl⟩)
          go_round
          case rel =>
            refine ⟨k + 1, by omega, by omega, by go_num, by rw [← HST.out], Lib.hid (fun j ha hb' => ?_)⟩
            by_cases hj : j = k
            · rw [hj]; exact HF.out
            · exact HA.out j ha (by omega)
          case measure => simp [intOf]; omega
        · have hf' : folB (byt l k) = false := by simpa using hf
          have HD := Lib.hid (dec_stop3 h1 h2 hk1 hlt ((folB_cont (by omega)).trans hf'))
          clear hst hf
          go_wp2_with (go_at_call 73; refine (follows_any _ _ hb).mono ?_; rintro e w' ⟨rfl, rfl⟩)
          go_ret2
          exact ⟨by rw [HD.out]; rfl, rfl⟩
      · obtain rfl : k = 3 := by omega
        have hd := dec_all3 h1 h2 (by omega) (HA.out 1 (by omega) (by omega)) (HA.out 2 (by omega) (by omega))
        generalize oneV l ((byt l 0 : Int) - 224) 3 = V at *
        by_cases hbad : (V < 2048 ∨ 1114111 < V ∨ (55296 ≤ V ∧ V ≤ 57343))
        · rw [if_pos hbad] at hd
          have HD := Lib.hid hd
          clear hd
          rcases hbad with hb1 | hb1 | hb1
          · go_wp2
            go_ret2
            exact ⟨by rw [HD.out]; rfl, rfl⟩
          · have hb0 : ¬ V < 2048 := by omega
            go_wp2
            go_ret2
            exact ⟨by rw [HD.out]; rfl, rfl⟩
          · obtain ⟨hb2, hb3⟩ := hb1
            have hb1 : ¬ 1114111 < V := by omega
            by_cases hb0 : V < 2048
            · go_wp2
              go_ret2
              exact ⟨by rw [HD.out]; rfl, rfl⟩
            · go_wp2
              go_ret2
              exact ⟨by rw [HD.out]; rfl, rfl⟩
        · rw [if_neg hbad] at hd
          have HD := Lib.hid hd
          clear hd
          have g1 : 2048 ≤ V := by omega
          have g2 : V ≤ 1114111 := by omega
          by_cases g3 : 55296 ≤ V
          · have g4 : 57343 < V := by omega
            go_wp2
            go_ret2
            exact ⟨by rw [HD.out]; exact ret_two (by simp; omega) rfl, rfl⟩
          · go_wp2
            go_ret2
            exact ⟨by rw [HD.out]; exact ret_two (by simp; omega) rfl, rfl⟩

theorem dec_stop4 {l : List UInt8} (h1 : 240 ≤ byt l 0) (h2 : byt l 0 < 248) {j : Nat} (hj : 1 ≤ j) (hj' : j < 4) (hk : cont l j = false) : dec l = (65533, 1) := by
  have : j = 1 ∨ j = 2 ∨ j = 3 := by omega
  unfold dec
  rw [if_neg (by omega), if_neg (by omega), if_neg (by omega)]
  rw [if_neg (by rcases this with rfl | rfl | rfl <;> (rw [hk]; simp))]

theorem dec_all4 {l : List UInt8} (h1 : 240 ≤ byt l 0) (h2 : byt l 0 < 248) (hl : 4 ≤ l.length) (c1 : folB (byt l 1) = true) (c2 : folB (byt l 2) = true) (c3 : folB (byt l 3) = true) :
    dec l = if (oneV l ((byt l 0 : Int) - 240) 4 < 65536 ∨ 1114111 < oneV l ((byt l 0 : Int) - 240) 4 ∨ (55296 ≤ oneV l ((byt l 0 : Int) - 240) 4 ∧ oneV l ((byt l 0 : Int) - 240) 4 ≤ 57343)) then (65533, 1) else ((oneV l ((byt l 0 : Int) - 240) 4).toNat, 4) := by
  have k1 : cont l 1 = true := (folB_cont (by omega)).trans c1
  have f1 : 128 ≤ byt l 1 ∧ byt l 1 < 192 := of_decide_eq_true c1
  have k2 : cont l 2 = true := (folB_cont (by omega)).trans c2
  have f2 : 128 ≤ byt l 2 ∧ byt l 2 < 192 := of_decide_eq_true c2
  have k3 : cont l 3 = true := (folB_cont (by omega)).trans c3
  have f3 : 128 ≤ byt l 3 ∧ byt l 3 < 192 := of_decide_eq_true c3
  have e : oneV l ((byt l 0 : Int) - 240) 4 = 64 * (64 * (64 * ((byt l 0 : Int) - 240) + byt l 1 - 128) + byt l 2 - 128) + byt l 3 - 128 := rfl
  rw [e]
  clear e
  unfold dec
  rw [if_neg (by omega), if_neg (by omega), if_neg (by omega), if_pos ⟨by omega, k1, k2, k3⟩]
  split
  · rw [if_neg (by omega)]
    simp only [Prod.mk.injEq, and_true]
    omega
  · rw [if_pos (by omega)]

set_option maxHeartbeats 1000000 in
set_option maxRecDepth 100000 in
theorem one_4 (b o c : Nat) (l : List UInt8) (w : World) (hcell : ∀ j, j < l.length → w.cell? ⟨b, o + j, none⟩ = some (.int .u8 (byt l j))) (hm : l.length ≤ maxLen) (hp : 0 < l.length)
    (h1 : 240 ≤ byt l 0) (h2 : byt l 0 < 248) :
    Calls Tryz.prog 62 #[.slice (some ⟨b, o, none⟩) l.length c] w fun e w' => e = .returned (.tuple #[.int .i32 (dec l).1, .int .i64 (dec l).2]) ∧ w = w' := by
  unfold maxLen at hm
  have hc0 : w.cell? ⟨b, o, none⟩ = some (.int .u8 (byt l 0)) := hcell 0 hp
  have HC := Lib.hid hcell
  clear hcell
  by_cases hs : l.length < 4
  · have HD := Lib.hid (dec_stop4 h1 h2 (j := 3) (by omega) (by omega) (cont_short (by omega)))
    go_enter Tryz.func62, Tryz.ntmps62
    go_wp2
    go_ret2
    exact ⟨by rw [HD.out]; rfl, rfl⟩
  · have B1 : decide ((byt l 0 : Int) < 128) = false := by simp; omega
    have B224 : decide ((byt l 0 : Int) < 224) = false := by simp; omega
    have B240 : decide ((byt l 0 : Int) < 240) = false := by simp; omega
    have B248 : decide ((byt l 0 : Int) < 248) = true := by simp; omega
    have BL : decide ((l.length : Int) < 4) = false := by simp; omega
    go_enter Tryz.func62, Tryz.ntmps62
    go_wp2
    go_loop [6, 8] (fun v i => ∃ k : Nat, 1 ≤ k ∧ k ≤ 4 ∧ i = .int .i64 k ∧ v = .int .i64 (oneV l ((byt l 0 : Int) - 240) k) ∧ Hid (∀ j, 1 ≤ j → j < k → folB (byt l j) = true)) (fun _ i => 4 - (intOf i).toNat)
    case atStart => exact ⟨1, by omega, by omega, rfl, rfl, Lib.hid (fun j _ _ => by omega)⟩
    case round =>
      obtain ⟨k, hk1, hk2, rfl, rfl, HA⟩ := hrel
      have hv := oneV_bd l ((byt l 0 : Int) - 240) (by omega) (by omega) k (by omega)
      by_cases hlt : k < 4
      · have hck := HC.out k (by omega)
        have hb := byt_lt l k
        have hst := oneV_step l ((byt l 0 : Int) - 240) hk1
        by_cases hf : folB (byt l k) = true
        · have hst' := hst.symm
          have HST := Lib.hid hst'
          have HF := Lib.hid hf
          clear hst hst'
          go_wp2_with (go_at_call 73; refine (follows_any _ _ hb).mono ?_; rintro e w' ⟨rfl, rfl⟩)
          go_round
          case rel =>
            refine ⟨k + 1, by omega, by omega, by go_num, by rw [← HST.out], Lib.hid (fun j ha hb' => ?_)⟩
            by_cases hj : j = k
            · rw [hj]; exact HF.out
            · exact HA.out j ha (by omega)
          case measure => simp [intOf]; omega
        · have hf' : folB (byt l k) = false := by simpa using hf
          have HD := Lib.hid (dec_stop4 h1 h2 hk1 hlt ((folB_cont (by omega)).trans hf'))
          clear hst hf
          go_wp2_with (go_at_call 73; refine (follows_any _ _ hb).mono ?_; rintro e w' ⟨rfl, rfl⟩)
          go_ret2
          exact ⟨by rw [HD.out]; rfl, rfl⟩
      · obtain rfl : k = 4 := by omega
        have hd := dec_all4 h1 h2 (by omega) (HA.out 1 (by omega) (by omega)) (HA.out 2 (by omega) (by omega)) (HA.out 3 (by omega) (by omega))
        generalize oneV l ((byt l 0 : Int) - 240) 4 = V at *
        by_cases hbad : (V < 65536 ∨ 1114111 < V ∨ (55296 ≤ V ∧ V ≤ 57343))
        · rw [if_pos hbad] at hd
          have HD := Lib.hid hd
          clear hd
          rcases hbad with hb1 | hb1 | hb1
          · go_wp2
            go_ret2
            exact ⟨by rw [HD.out]; rfl, rfl⟩
          · have hb0 : ¬ V < 65536 := by omega
            go_wp2
            go_ret2
            exact ⟨by rw [HD.out]; rfl, rfl⟩
          · obtain ⟨hb2, hb3⟩ := hb1
            have hb1 : ¬ 1114111 < V := by omega
            by_cases hb0 : V < 65536
            · go_wp2
              go_ret2
              exact ⟨by rw [HD.out]; rfl, rfl⟩
            · omega
        · rw [if_neg hbad] at hd
          have HD := Lib.hid hd
          clear hd
          have g1 : 65536 ≤ V := by omega
          have g2 : V ≤ 1114111 := by omega
          by_cases g3 : 55296 ≤ V
          · have g4 : 57343 < V := by omega
            go_wp2
            go_ret2
            exact ⟨by rw [HD.out]; exact ret_two (by simp; omega) rfl, rfl⟩
          · omega

set_option maxHeartbeats 1000000 in
set_option maxRecDepth 100000 in
theorem one_any (b o c : Nat) (l : List UInt8) (w : World) (hcell : ∀ j, j < l.length → w.cell? ⟨b, o + j, none⟩ = some (.int .u8 (byt l j))) (hm : l.length ≤ maxLen) (hp : 0 < l.length) :
    Calls Tryz.prog 62 #[.slice (some ⟨b, o, none⟩) l.length c] w fun e w' => e = .returned (.tuple #[.int .i32 (dec l).1, .int .i64 (dec l).2]) ∧ w = w' := by
  have b0 := byt_lt l 0
  by_cases a2 : 192 ≤ byt l 0 ∧ byt l 0 < 224
  · exact one_2 b o c l w hcell hm hp a2.1 a2.2
  by_cases a3 : 224 ≤ byt l 0 ∧ byt l 0 < 240
  · exact one_3 b o c l w hcell hm hp a3.1 a3.2
  by_cases a4 : 240 ≤ byt l 0 ∧ byt l 0 < 248
  · exact one_4 b o c l w hcell hm hp a4.1 a4.2
  have hc0 : w.cell? ⟨b, o, none⟩ = some (.int .u8 (byt l 0)) := hcell 0 hp
  clear hcell
  unfold maxLen at hm
  by_cases h1 : byt l 0 < 128
  · have HD := Lib.hid (dec_low h1)
    clear a2 a3 a4
    go_enter Tryz.func62, Tryz.ntmps62
    go_wp2
    go_ret2
    exact ⟨by rw [HD.out]; rfl, rfl⟩
  · have HD := Lib.hid (dec_none (l := l) (by omega))
    by_cases h3 : byt l 0 < 192
    · clear a2 a3 a4
      go_enter Tryz.func62, Tryz.ntmps62
      go_wp2
      go_ret2
      exact ⟨by rw [HD.out]; rfl, rfl⟩
    · have h4 : 248 ≤ byt l 0 := by omega
      clear a2 a3 a4
      go_enter Tryz.func62, Tryz.ntmps62
      go_wp2
      go_ret2
      exact ⟨by rw [HD.out]; rfl, rfl⟩

theorem one_sits {b o n c : Nat} {l : List UInt8} {w : World} (hcell : ∀ j u, (Lib.byteCells l)[j]? = some u → w.cell? ⟨b, o + j, none⟩ = some u) (hn : n = l.length) (hm : l.length ≤ maxLen) (hp : 0 < l.length) :
    Calls Tryz.prog 62 #[.slice (some ⟨b, o, none⟩) n c] w fun e w' => e = .returned (.tuple #[.int .i32 (dec l).1, .int .i64 (dec l).2]) ∧ w = w' := by
  subst hn
  exact one_any b o c l w (fun j hj => hcell j _ (byteCells_at hj)) hm hp

end Go.Proofs.YthmnnalamaponaaGreat

/- Part RunesR. -/
namespace Go.Proofs.YthmnnalamaponaaGreat
open Go.RowKit
set_option linter.unusedVariables false

theorem info_rune : (Tryz.prog.info? 21).map (fun i => (i.zero, i.size, i.bytes)) = some (some (.int .i32 0), 1, 4) := by kernel_rfl

theorem byteCells_drop (l : List UInt8) (k j : Nat) : (Lib.byteCells (l.drop k))[j]? = (Lib.byteCells l)[k + j]? := by
  unfold Lib.byteCells
  rw [List.getElem?_map, List.getElem?_map, List.getElem?_drop]

/-- Characters as cells. -/
def rcells (l : List Int) : List Value := l.map (Value.int .i32)
theorem rcells_length (l : List Int) : (rcells l).length = l.length := by simp [rcells]
theorem rcells_append (a b : List Int) : rcells (a ++ b) = rcells a ++ rcells b := by simp [rcells]

set_option maxHeartbeats 1000000 in
set_option maxRecDepth 100000 in
theorem runesR_any (A : Option Addr) (c : Nat) (l : List UInt8) (w : World) (hs : Sits w w.heap.size A (Lib.byteCells l)) (hc : l.length ≤ c) (hm : l.length ≤ 1000000) :
    Calls Tryz.prog 48 #[.slice A l.length c] w fun e w' => ∃ A' c', e = .returned (.slice A' (runes l).length c') ∧ (runes l).length ≤ c' ∧
      w'.ownsRow w.heap.size 21 1 (.slice A' (runes l).length c') (runes l).length (rcells (runes l)) ∧ Below w.heap.size w w' := by
  obtain ⟨i0, hi, hz0, hz1, hz2⟩ := info_parts info_rune
  have HS := Lib.hid hs
  clear hs
  go_enter Tryz.func48, Tryz.ntmps48
  go_wp2
  go_loopw [3, 4] (fun v i wr => ∃ (k : Nat) (acc : List Int), k ≤ l.length ∧ i = .int .i64 k ∧ Hid (runes l = acc ++ runes (l.drop k)) ∧ acc.length ≤ k ∧ wr.ownsRow w.heap.size 21 1 v acc.length (rcells acc) ∧ Below w.heap.size w wr) (fun _ i _ => l.length - (intOf i).toNat)
  case atStart => exact ⟨0, [], by omega, rfl, Lib.hid (by simp), by simp, World.ownsRow_nil _ _ _ _, Below.refl _ _⟩
  case round =>
    obtain ⟨k, acc, hk, rfl, HR, hal, hown, hbel⟩ := hrel
    by_cases hlt : k < l.length
    · obtain ⟨b, o, rfl, hb, hcell⟩ := HS.out.open_ (by rw [Lib.byteCells_length]; omega)
      have hcell' : ∀ j u, (Lib.byteCells (l.drop k))[j]? = some u → wr.cell? ⟨b, o + k + j, none⟩ = some u := by
        intro j u hu
        rw [byteCells_drop] at hu
        rw [hbel.cell (p := ⟨b, o + k + j, none⟩) hb, Nat.add_assoc]
        exact hcell _ u hu
      have hw := dec_width (l := l.drop k) (by rw [List.length_drop]; omega)
      rw [List.length_drop] at hw
      have hst := runes_step (l := l.drop k) (by rw [List.length_drop]; omega)
      rw [List.drop_drop] at hst
      have HST := Lib.hid hst
      have HC := Lib.hid hcell'
      clear hst hcell' hcell
      go_wp2_with fail
      refine (one_sits HC.out (by rw [List.length_drop]) (by unfold maxLen; rw [List.length_drop]; omega) (by rw [List.length_drop]; omega)).mono ?_
      rintro e w' ⟨rfl, rfl⟩
      go_wp2_with (at_builtin; refine wpList_append_own _ rfl _ _ 68 rfl w.heap.size 21 i0 (.int .i32 0) 1 4 Tryz.underlying68 hi hz0 hz1 hz2 rfl (by decide) _ _ _ rfl (hown.alloc _) ⟨wr.heap.size, 0, none⟩ 1 1 [.int .i32 ((dec (l.drop k)).1 : Int)] rfl rfl (new_one _ _ _) (by simp [Value.oneCell']) (by unfold maxLen; omega) (by omega) (by have := hbel.size; simp; omega) ?_; intro v' w1 hown' hgrow _)
      have hB' : Below w.heap.size w w1 := (hbel.alloc hbel.size _).grown hgrow (by have := hbel.size; simp; omega) (fun g hg => (hown.lt g hg).1)
      clear hgrow hown
      go_roundw
      case rel =>
        refine ⟨k + (dec (l.drop k)).2, acc ++ [((dec (l.drop k)).1 : Int)], by omega, by go_num, Lib.hid ?_, by simp; omega, ?_, hB'⟩
        · rw [HR.out, HST.out, List.append_assoc]
          rfl
        · rw [rcells_append, List.length_append]
          exact hown'
      case measure => simp [intOf]; omega
    · have hr : runes l = acc := by
        have := HR.out
        rw [List.drop_of_length_le (by omega), runes_nil, List.append_nil] at this
        exact this
      obtain ⟨A', c', rfl, hcc⟩ := own_shape hown
      have HRR := Lib.hid hr
      clear hr
      go_wp2
      go_ret
      rw [HRR.out]
      exact ⟨A', c', rfl, hcc, hown, hbel⟩

end Go.Proofs.YthmnnalamaponaaGreat

/- Part BytesR. -/
namespace Go.Proofs.YthmnnalamaponaaGreat
open Go.RowKit
set_option linter.unusedVariables false

theorem lit_end (w : World) (r : Int) {cs : Array Value} {n : Nat} (hcs : cs.toList = Lib.runeCells r) (hn : cs.size = n) :
    ∃ A' c', Ending.returned (.slice (some ⟨w.heap.size, 0, none⟩) n n) = .returned (.slice A' (Lib.encodeRune r).length c') ∧ (Lib.encodeRune r).length ≤ c' ∧
      (w.alloc (.cells cs 5)).ownsRow w.heap.size 5 1 (.slice A' (Lib.encodeRune r).length c') (Lib.encodeRune r).length (Lib.byteCells (Lib.encodeRune r)) ∧ Below w.heap.size w (w.alloc (.cells cs 5)) := by
  have hl := Lib.runeCells_le r
  have h1 : (Lib.encodeRune r).length = n := by rw [← Lib.runeCells_length, ← hcs, ← hn]; simp
  refine ⟨_, n, by rw [h1], by omega, ?_, (Below.refl _ _).alloc (Nat.le_refl _) _⟩
  rw [Lib.byteCells_encodeRune, ← hcs, h1]
  rw [Lib.runeCells_length] at hl
  exact own_lit w 5 cs n hn (by unfold maxLen; omega)

set_option maxHeartbeats 1000000 in
set_option maxRecDepth 100000 in
theorem bytes_a (r : Int) (w : World) (h0 : -2147483648 ≤ r) (h1 : r ≤ -1) :
    Calls Tryz.prog 63 #[.int .i32 r] w fun e w' => ∃ A' c', e = .returned (.slice A' (Lib.encodeRune r).length c') ∧ (Lib.encodeRune r).length ≤ c' ∧
      w'.ownsRow w.heap.size 5 1 (.slice A' (Lib.encodeRune r).length c') (Lib.encodeRune r).length (Lib.byteCells (Lib.encodeRune r)) ∧ Below w.heap.size w w' := by
  go_enter Tryz.func63, Tryz.ntmps63
  go_wp2
  go_ret
  exact lit_end w r (by unfold Lib.runeCells; rw [Lib.encodeRuneZ_bad (by omega)]; rfl) rfl

set_option maxHeartbeats 1000000 in
set_option maxRecDepth 100000 in
theorem bytes_b (r : Int) (w : World) (h0 : 0 ≤ r) (h1 : r ≤ 127) :
    Calls Tryz.prog 63 #[.int .i32 r] w fun e w' => ∃ A' c', e = .returned (.slice A' (Lib.encodeRune r).length c') ∧ (Lib.encodeRune r).length ≤ c' ∧
      w'.ownsRow w.heap.size 5 1 (.slice A' (Lib.encodeRune r).length c') (Lib.encodeRune r).length (Lib.byteCells (Lib.encodeRune r)) ∧ Below w.heap.size w w' := by
  go_enter Tryz.func63, Tryz.ntmps63
  go_wp2
  go_ret
  exact lit_end w r (by unfold Lib.runeCells; rw [Lib.encodeRuneZ_one (by omega) (by omega)]; rfl) rfl

set_option maxHeartbeats 1000000 in
set_option maxRecDepth 100000 in
theorem bytes_c (r : Int) (w : World) (h0 : 128 ≤ r) (h1 : r ≤ 2047) :
    Calls Tryz.prog 63 #[.int .i32 r] w fun e w' => ∃ A' c', e = .returned (.slice A' (Lib.encodeRune r).length c') ∧ (Lib.encodeRune r).length ≤ c' ∧
      w'.ownsRow w.heap.size 5 1 (.slice A' (Lib.encodeRune r).length c') (Lib.encodeRune r).length (Lib.byteCells (Lib.encodeRune r)) ∧ Below w.heap.size w w' := by
  go_enter Tryz.func63, Tryz.ntmps63
  go_wp2
  go_ret
  exact lit_end w r (by unfold Lib.runeCells; rw [Lib.encodeRuneZ_two (by omega) (by omega)]; rfl) rfl

set_option maxHeartbeats 1000000 in
set_option maxRecDepth 100000 in
theorem bytes_d (r : Int) (w : World) (h0 : 2048 ≤ r) (h1 : r ≤ 55295) :
    Calls Tryz.prog 63 #[.int .i32 r] w fun e w' => ∃ A' c', e = .returned (.slice A' (Lib.encodeRune r).length c') ∧ (Lib.encodeRune r).length ≤ c' ∧
      w'.ownsRow w.heap.size 5 1 (.slice A' (Lib.encodeRune r).length c') (Lib.encodeRune r).length (Lib.byteCells (Lib.encodeRune r)) ∧ Below w.heap.size w w' := by
  go_enter Tryz.func63, Tryz.ntmps63
  go_wp2
  go_ret
  exact lit_end w r (by unfold Lib.runeCells; rw [Lib.encodeRuneZ_three (by omega)]; rfl) rfl

set_option maxHeartbeats 1000000 in
set_option maxRecDepth 100000 in
theorem bytes_e (r : Int) (w : World) (h0 : 55296 ≤ r) (h1 : r ≤ 57343) :
    Calls Tryz.prog 63 #[.int .i32 r] w fun e w' => ∃ A' c', e = .returned (.slice A' (Lib.encodeRune r).length c') ∧ (Lib.encodeRune r).length ≤ c' ∧
      w'.ownsRow w.heap.size 5 1 (.slice A' (Lib.encodeRune r).length c') (Lib.encodeRune r).length (Lib.byteCells (Lib.encodeRune r)) ∧ Below w.heap.size w w' := by
  go_enter Tryz.func63, Tryz.ntmps63
  go_wp2
  go_ret
  exact lit_end w r (by unfold Lib.runeCells; rw [Lib.encodeRuneZ_bad (by omega)]; rfl) rfl

set_option maxHeartbeats 1000000 in
set_option maxRecDepth 100000 in
theorem bytes_f (r : Int) (w : World) (h0 : 57344 ≤ r) (h1 : r ≤ 65535) :
    Calls Tryz.prog 63 #[.int .i32 r] w fun e w' => ∃ A' c', e = .returned (.slice A' (Lib.encodeRune r).length c') ∧ (Lib.encodeRune r).length ≤ c' ∧
      w'.ownsRow w.heap.size 5 1 (.slice A' (Lib.encodeRune r).length c') (Lib.encodeRune r).length (Lib.byteCells (Lib.encodeRune r)) ∧ Below w.heap.size w w' := by
  go_enter Tryz.func63, Tryz.ntmps63
  go_wp2
  go_ret
  exact lit_end w r (by unfold Lib.runeCells; rw [Lib.encodeRuneZ_three (by omega)]; rfl) rfl

set_option maxHeartbeats 1000000 in
set_option maxRecDepth 100000 in
theorem bytes_g (r : Int) (w : World) (h0 : 65536 ≤ r) (h1 : r ≤ 1114111) :
    Calls Tryz.prog 63 #[.int .i32 r] w fun e w' => ∃ A' c', e = .returned (.slice A' (Lib.encodeRune r).length c') ∧ (Lib.encodeRune r).length ≤ c' ∧
      w'.ownsRow w.heap.size 5 1 (.slice A' (Lib.encodeRune r).length c') (Lib.encodeRune r).length (Lib.byteCells (Lib.encodeRune r)) ∧ Below w.heap.size w w' := by
  go_enter Tryz.func63, Tryz.ntmps63
  go_wp2
  go_ret
  exact lit_end w r (by unfold Lib.runeCells; rw [Lib.encodeRuneZ_four (by omega) (by omega)]; rfl) rfl

set_option maxHeartbeats 1000000 in
set_option maxRecDepth 100000 in
theorem bytes_h (r : Int) (w : World) (h0 : 1114112 ≤ r) (h1 : r ≤ 2147483647) :
    Calls Tryz.prog 63 #[.int .i32 r] w fun e w' => ∃ A' c', e = .returned (.slice A' (Lib.encodeRune r).length c') ∧ (Lib.encodeRune r).length ≤ c' ∧
      w'.ownsRow w.heap.size 5 1 (.slice A' (Lib.encodeRune r).length c') (Lib.encodeRune r).length (Lib.byteCells (Lib.encodeRune r)) ∧ Below w.heap.size w w' := by
  go_enter Tryz.func63, Tryz.ntmps63
  go_wp2
  go_ret
  exact lit_end w r (by unfold Lib.runeCells; rw [Lib.encodeRuneZ_bad (by omega)]; rfl) rfl

theorem bytes_any (r : Int) (w : World) (h0 : -2147483648 ≤ r) (h1 : r ≤ 2147483647) :
    Calls Tryz.prog 63 #[.int .i32 r] w fun e w' => ∃ A' c', e = .returned (.slice A' (Lib.encodeRune r).length c') ∧ (Lib.encodeRune r).length ≤ c' ∧
      w'.ownsRow w.heap.size 5 1 (.slice A' (Lib.encodeRune r).length c') (Lib.encodeRune r).length (Lib.byteCells (Lib.encodeRune r)) ∧ Below w.heap.size w w' := by
  by_cases aa : r ≤ -1
  · exact bytes_a r w (by omega) aa
  by_cases ab : r ≤ 127
  · exact bytes_b r w (by omega) ab
  by_cases ac : r ≤ 2047
  · exact bytes_c r w (by omega) ac
  by_cases ad : r ≤ 55295
  · exact bytes_d r w (by omega) ad
  by_cases ae : r ≤ 57343
  · exact bytes_e r w (by omega) ae
  by_cases af : r ≤ 65535
  · exact bytes_f r w (by omega) af
  by_cases ag : r ≤ 1114111
  · exact bytes_g r w (by omega) ag
  exact bytes_h r w (by omega) h1

theorem info_byte : (Tryz.prog.info? 5).map (fun i => (i.zero, i.size, i.bytes)) = some (some (.int .u8 0), 1, 1) := by kernel_rfl

end Go.Proofs.YthmnnalamaponaaGreat

/- Part MemC. -/
namespace Go.Proofs.YthmnnalamaponaaGreat
open Go.RowKit
set_option linter.unusedVariables false

/-- '[]byte(s)': the new row holds s's bytes. -/
theorem sits_new (w : World) (s : ByteArray) (cap : Nat) :
    Sits (w.alloc (.cells (bytesRow s cap) 5 ((bytesRow s cap).size, (bytesRow s cap).size + 1))).drew (w.heap.size + 1) (some ⟨w.heap.size, 0, none⟩) (Lib.byteCells s.data.toList) := by
  intro hp
  refine ⟨w.heap.size, 0, rfl, by omega, fun j u hu => ?_⟩
  show (w.alloc _).cell? _ = _
  rw [World.cell?_alloc_mark, Nat.zero_add]
  have hj : j < s.data.size := by
    have := (List.getElem?_eq_some_iff.1 hu).1
    rw [Lib.byteCells_length] at this
    simpa using this
  rw [bytesRow_at s cap j hj, ← hu]
  unfold Lib.byteCells
  rw [List.getElem?_map, List.getElem?_eq_getElem (by simpa using hj)]
  simp

theorem alloc_drew_below (w : World) (o : Obj) : Below w.heap.size w (w.alloc o).drew := ((Below.refl _ w).alloc (Nat.le_refl _) _).drew

/-- 'x[:k]' within the capacity. -/
theorem cut_head (W : World) (A : Option Addr) (n c k : Nat) (hk : k ≤ c) :
    (Instr.slice 27 (.slice A n c) none (some (.int .i64 (k : Int))) none).run Tryz.prog W = .ok (.slice A k c) W := by
  have he : Tryz.prog.elem 27 = 5 := by kernel_rfl
  rw [run_slice_h W 27 A n c (by rw [he]; exact Tryz.underlying27) .i64 (k : Int) (by omega) (by omega)]
  rw [he, Tryz.sizeOf5]
  simp only [Result.andThen, sliced, Int.toNat_natCast, Nat.zero_mul, Nat.sub_zero]
  have e : (A.map fun x => x.add 0) = A := by
    cases A with
    | none => rfl
    | some a => rfl
  rw [e]
  split <;> rfl

/-- What is told of a text that was made right, for the calls behind. -/
theorem str_of (r : List UInt8) : ∃ s : ByteArray, (⟨r.toArray⟩ : ByteArray) = s ∧ s.data.toList = r ∧ s.size = r.length := ⟨_, rfl, rfl, rfl⟩

theorem sits_conv {w : World} {s : ByteArray} {r : List UInt8} (h : s.data.toList = r) :
    ∃ w2, (w.alloc (.cells (bytesRow s (grownCap w s.size 0 5)) 5 ((bytesRow s (grownCap w s.size 0 5)).size, (bytesRow s (grownCap w s.size 0 5)).size + 1))).drew = w2 ∧
      Sits w2 w2.heap.size (some ⟨w.heap.size, 0, none⟩) (Lib.byteCells r) ∧ Below w.heap.size w w2 := by
  refine ⟨_, rfl, ?_, alloc_drew_below w _⟩
  have := sits_new w s (grownCap w s.size 0 5)
  rw [h] at this
  simpa using this

theorem drop_extract (s : ByteArray) (pos : Nat) : (s.extract pos s.size).data.toList = s.data.toList.drop pos := by
  rw [Lib.extract_data]
  rw [List.take_of_length_le]
  rw [List.length_drop]
  have : s.data.toList.length = s.size := by simp
  omega

theorem take_extract (s : ByteArray) (n : Nat) : (s.extract 0 n).data.toList = s.data.toList.take n := by
  rw [Lib.extract_data]
  simp

theorem mid_extract (s : ByteArray) (a b : Nat) : (s.extract a b).data.toList = (s.data.toList.drop a).take (b - a) := by rw [Lib.extract_data]

theorem eq_lit (s : ByteArray) (l : List UInt8) : (l == s.toList) = decide (s.data.toList = l) := by
  rw [Lib.toList_data]
  by_cases h : s.data.toList = l
  · rw [h]; simp
  · rw [decide_eq_false h, beq_eq_false_iff_ne]
    exact fun e => h e.symm

theorem str_list (t : ByteArray) : t.size = t.data.toList.length := by simp

end Go.Proofs.YthmnnalamaponaaGreat

/- Part Tree. -/
namespace Go.Proofs.YthmnnalamaponaaGreat
open Go.RowKit
set_option linter.unusedVariables false

/-! ### rows of cells, in blocks of a kind -/
/-- The slice with address A holds the cells xs; they lie in a block of S. -/
def Cells (S : Nat → Prop) (w : World) (A : Option Addr) (xs : List Value) : Prop :=
  0 < xs.length → ∃ b o, A = some ⟨b, o, none⟩ ∧ S b ∧ ∀ j u, xs[j]? = some u → w.cell? ⟨b, o + j, none⟩ = some u

/-- Two worlds hold the same cells in the blocks of S. -/
def Kept (S : Nat → Prop) (w w' : World) : Prop := ∀ b, S b → ∀ j, w'.cell? ⟨b, j, none⟩ = w.cell? ⟨b, j, none⟩

theorem Kept.below {S : Nat → Prop} {w w' : World} (hb : Below w.heap.size w w') (hS : ∀ b, S b → b < w.heap.size) : Kept S w w' := fun b hs j => hb.cell (p := ⟨b, j, none⟩) (hS b hs)
theorem Kept.belowB {S : Nat → Prop} {w w' : World} {B : Nat} (hb : Below B w w') (hS : ∀ b, S b → b < B) : Kept S w w' := fun b hs j => hb.cell (p := ⟨b, j, none⟩) (hS b hs)
theorem Kept.grown {S : Nat → Prop} {w w' : World} {row : Option Nat} (hg : w.grownBy w' row) (hS : ∀ b, S b → b < w.heap.size ∧ some b ≠ row) : Kept S w w' :=
  fun b hs j => World.cell?_of_block (a := ⟨b, j, none⟩) (hg.block b (hS b hs).1 (hS b hs).2)
theorem Kept.mono {S S' : Nat → Prop} {w w' : World} (h : Kept S' w w') (hS : ∀ b, S b → S' b) : Kept S w w' := fun b hs => h b (hS b hs)
theorem Kept.trans {S : Nat → Prop} {w w' w'' : World} (h : Kept S w w') (h' : Kept S w' w'') : Kept S w w'' := fun b hs j => (h' b hs j).trans (h b hs j)
theorem Kept.refl (S : Nat → Prop) (w : World) : Kept S w w := fun _ _ _ => rfl

theorem Cells.nil (S : Nat → Prop) (w : World) (A : Option Addr) : Cells S w A [] := fun h => absurd h (by simp)
theorem Cells.keep {S : Nat → Prop} {w w' : World} {A : Option Addr} {xs : List Value} (h : Cells S w A xs) (hk : Kept S w w') : Cells S w' A xs := by
  intro hx
  obtain ⟨b, o, hA, hb, hc⟩ := h hx
  exact ⟨b, o, hA, hb, fun j u hu => (hk b hb _).trans (hc j u hu)⟩
theorem Cells.mono {S S' : Nat → Prop} {w : World} {A : Option Addr} {xs : List Value} (h : Cells S w A xs) (hS : ∀ b, S b → S' b) : Cells S' w A xs := by
  intro hx
  obtain ⟨b, o, hA, hb, hc⟩ := h hx
  exact ⟨b, o, hA, hS b hb, hc⟩
theorem Cells.take {S : Nat → Prop} {w : World} {A : Option Addr} {xs : List Value} (h : Cells S w A xs) (n : Nat) : Cells S w A (xs.take n) := by
  intro hx
  obtain ⟨b, o, hA, hb, hc⟩ := h (by rw [List.length_take] at hx; omega)
  refine ⟨b, o, hA, hb, fun j u hu => hc j u ?_⟩
  rw [List.getElem?_take] at hu
  split at hu
  · exact hu
  · cases hu
/-- What the call owns can be read, in its own block. -/
theorem Cells.own {w : World} {base size : Nat} {e : TypeId} {A : Option Addr} {n c : Nat} {xs : List Value} (h : w.ownsRow base e size (.slice A n c) n xs) : Cells (fun b => (Value.slice A n c).ownBlock = some b) w A xs := by
  intro hx
  rcases h.2 with ⟨_, h0⟩ | ⟨g, cap, cur, hv, hg, hh, hnc, hcm, hcs, hct⟩
  · have := h.1
    rw [h0] at this
    simp at this
    rw [this] at hx
    simp at hx
  · have hA : A = some ⟨g, 0, none⟩ := by injection hv
    have hc : c = cap := by injection hv
    subst hA
    subst hc
    refine ⟨g, 0, rfl, rfl, fun j u hu => ?_⟩
    rw [Nat.zero_add]
    have hj : j < n * size := by rw [← h.1]; exact (List.getElem?_eq_some_iff.1 hu).1
    rw [h.cellAt j hj]
    exact hu

/-! ### attributes -/
def acells (l : List (ByteArray × ByteArray)) : List Value := l.flatMap fun a => [.string a.1, .string a.2]
theorem acells_nil : acells [] = [] := rfl
theorem acells_append (a b : List (ByteArray × ByteArray)) : acells (a ++ b) = acells a ++ acells b := by simp [acells]
theorem acells_cons (a : ByteArray × ByteArray) (l : List (ByteArray × ByteArray)) : acells (a :: l) = .string a.1 :: .string a.2 :: acells l := by simp [acells]
theorem acells_length : ∀ l, (acells l).length = l.length * 2
  | [] => rfl
  | a :: l => by rw [acells_cons, List.length_cons, List.length_cons, acells_length l, List.length_cons]; omega
theorem acells_at : ∀ {l : List (ByteArray × ByteArray)} {k : Nat} {x : ByteArray × ByteArray}, l[k]? = some x → (acells l)[k * 2]? = some (.string x.1) ∧ (acells l)[k * 2 + 1]? = some (.string x.2)
  | [], k, x, h => by simp at h
  | a :: l, 0, x, h => by
    simp at h
    subst h
    rw [acells_cons]
    exact ⟨rfl, rfl⟩
  | a :: l, k + 1, x, h => by
    have := acells_at (l := l) (k := k) (x := x) (by simpa using h)
    rw [acells_cons, show (k + 1) * 2 = k * 2 + 1 + 1 by omega]
    simpa using this

def AttrsAt (S : Nat → Prop) (w : World) (l : List (ByteArray × ByteArray)) (v : Value) : Prop :=
  ∃ A c, v = .slice A l.length c ∧ l.length ≤ c ∧ Cells S w A (acells l)
theorem AttrsAt.keep {S : Nat → Prop} {w w' : World} {l : List (ByteArray × ByteArray)} {v : Value} (h : AttrsAt S w l v) (hk : Kept S w w') : AttrsAt S w' l v := by
  obtain ⟨A, c, hv, hc, hx⟩ := h
  exact ⟨A, c, hv, hc, hx.keep hk⟩
theorem AttrsAt.mono {S S' : Nat → Prop} {w : World} {l : List (ByteArray × ByteArray)} {v : Value} (h : AttrsAt S w l v) (hS : ∀ b, S b → S' b) : AttrsAt S' w l v := by
  obtain ⟨A, c, hv, hc, hx⟩ := h
  exact ⟨A, c, hv, hc, hx.mono hS⟩
theorem AttrsAt.nil (S : Nat → Prop) (w : World) : AttrsAt S w [] (.slice none 0 0) := ⟨none, 0, rfl, Nat.le_refl _, Cells.nil _ _ _⟩
/-- An attribute's two cells. -/
theorem AttrsAt.at_ {S : Nat → Prop} {w : World} {l : List (ByteArray × ByteArray)} {v : Value} (h : AttrsAt S w l v) (hl : 0 < l.length) :
    ∃ b o c, v = .slice (some ⟨b, o, none⟩) l.length c ∧ l.length ≤ c ∧ S b ∧ ∀ k x, l[k]? = some x → w.cell? ⟨b, o + k * 2, none⟩ = some (.string x.1) ∧ w.cell? ⟨b, o + k * 2 + 1, none⟩ = some (.string x.2) := by
  obtain ⟨A, c, hv, hc, hx⟩ := h
  obtain ⟨b, o, rfl, hS, hcell⟩ := hx (by rw [acells_length]; omega)
  refine ⟨b, o, c, hv, hc, hS, fun k x hk => ?_⟩
  have := acells_at hk
  exact ⟨hcell _ _ this.1, by rw [Nat.add_assoc]; exact hcell _ _ this.2⟩

/-! ### nodes -/
/-- A node with the values of its two lists. -/
structure Rn where
  n : Nd
  va : Value
  vk : Value

def ncells1 (r : Rn) : List Value := [.int .i64 r.n.kind, .string r.n.name, r.va, .string r.n.text, r.vk]
def ncells (R : List Rn) : List Value := R.flatMap ncells1
theorem ncells_nil : ncells [] = [] := rfl
theorem ncells_append (a b : List Rn) : ncells (a ++ b) = ncells a ++ ncells b := by simp [ncells]
theorem ncells_cons (r : Rn) (R : List Rn) : ncells (r :: R) = .int .i64 r.n.kind :: .string r.n.name :: r.va :: .string r.n.text :: r.vk :: ncells R := by simp [ncells, ncells1]
theorem ncells_length : ∀ R, (ncells R).length = R.length * 5
  | [] => rfl
  | r :: R => by rw [ncells_cons]; simp only [List.length_cons]; rw [ncells_length R]; omega
theorem ncells_at : ∀ {R : List Rn} {k : Nat} {r : Rn}, R[k]? = some r → (ncells R)[k * 5]? = some (.int .i64 r.n.kind) ∧ (ncells R)[k * 5 + 1]? = some (.string r.n.name) ∧ (ncells R)[k * 5 + 2]? = some r.va ∧ (ncells R)[k * 5 + 3]? = some (.string r.n.text) ∧ (ncells R)[k * 5 + 4]? = some r.vk
  | [], k, r, h => by simp at h
  | a :: R, 0, r, h => by
    simp at h
    subst h
    rw [ncells_cons]
    exact ⟨rfl, rfl, rfl, rfl, rfl⟩
  | a :: R, k + 1, r, h => by
    have := ncells_at (R := R) (k := k) (r := r) (by simpa using h)
    rw [ncells_cons, show (k + 1) * 5 = k * 5 + 1 + 1 + 1 + 1 + 1 by omega]
    simpa using this

/-- The slice v holds the nodes l, with all that hangs on them, in blocks of S. -/
inductive Tree (S : Nat → Prop) (w : World) : List Nd → Value → Prop
  | mk (R : List Rn) (l : List Nd) (A : Option Addr) (c : Nat) (hl : R.map Rn.n = l) (hc : l.length ≤ c) (hcell : Cells S w A (ncells R))
      (hat : ∀ r ∈ R, AttrsAt S w r.n.attrs r.va) (hk : ∀ r ∈ R, Tree S w r.n.kids r.vk) : Tree S w l (.slice A l.length c)

theorem Tree.keep {S : Nat → Prop} {w w' : World} {l : List Nd} {v : Value} (h : Tree S w l v) (hk : Kept S w w') : Tree S w' l v := by
  induction h with
  | mk R l A c hl hc hcell hat hkids ih => exact .mk R l A c hl hc (hcell.keep hk) (fun r hr => (hat r hr).keep hk) ih
theorem Tree.mono {S S' : Nat → Prop} {w : World} {l : List Nd} {v : Value} (h : Tree S w l v) (hS : ∀ b, S b → S' b) : Tree S' w l v := by
  induction h with
  | mk R l A c hl hc hcell hat hkids ih => exact .mk R l A c hl hc (hcell.mono hS) (fun r hr => (hat r hr).mono hS) ih
theorem Tree.stay {w w' : World} {B : Nat} {l : List Nd} {v : Value} (h : Tree (· < B) w l v) (hb : Below B w w') : Tree (· < B) w' l v := h.keep (Kept.belowB hb fun _ h => h)
theorem Tree.nil (S : Nat → Prop) (w : World) : Tree S w [] (.slice none 0 0) := .mk [] [] none 0 rfl (Nat.le_refl _) (Cells.nil _ _ _) (by simp) (by simp)

/-- A node's cells, and what hangs on it. -/
structure NodeAt (S : Nat → Prop) (w : World) (b o : Nat) (n : Nd) (va vk : Value) : Prop where
  c0 : w.cell? ⟨b, o, none⟩ = some (.int .i64 n.kind)
  c1 : w.cell? ⟨b, o + 1, none⟩ = some (.string n.name)
  c2 : w.cell? ⟨b, o + 2, none⟩ = some va
  c3 : w.cell? ⟨b, o + 3, none⟩ = some (.string n.text)
  c4 : w.cell? ⟨b, o + 4, none⟩ = some vk
  at_ : AttrsAt S w n.attrs va
  kids : Tree S w n.kids vk

theorem Tree.shape {S : Nat → Prop} {w : World} {l : List Nd} {v : Value} (h : Tree S w l v) : ∃ A c, v = .slice A l.length c ∧ l.length ≤ c := by
  cases h with
  | mk R l A c hl hc hcell hat hkids => exact ⟨A, c, rfl, hc⟩

theorem Tree.open_ {S : Nat → Prop} {w : World} {l : List Nd} {v : Value} (h : Tree S w l v) (h0 : 0 < l.length) :
    ∃ b o c, v = .slice (some ⟨b, o, none⟩) l.length c ∧ l.length ≤ c ∧ S b ∧ ∀ k n, l[k]? = some n → ∃ va vk, NodeAt S w b (o + k * 5) n va vk := by
  cases h with
  | mk R l A c hl hc hcell hat hkids =>
    subst hl
    obtain ⟨b, o, rfl, hS, hx⟩ := hcell (by rw [ncells_length]; rw [List.length_map] at h0; omega)
    refine ⟨b, o, c, rfl, hc, hS, fun k n hn => ?_⟩
    rw [List.getElem?_map] at hn
    cases hr : R[k]? with
    | none => rw [hr] at hn; cases hn
    | some r =>
      rw [hr] at hn
      injection hn with hn
      subst hn
      have hm := List.mem_of_getElem? hr
      have ha := ncells_at hr
      refine ⟨r.va, r.vk, hx _ _ ha.1, ?_, ?_, ?_, ?_, hat r hm, hkids r hm⟩
      all_goals rw [Nat.add_assoc]
      · exact hx _ _ ha.2.1
      · exact hx _ _ ha.2.2.1
      · exact hx _ _ ha.2.2.2.1
      · exact hx _ _ ha.2.2.2.2

theorem Tree.take {S : Nat → Prop} {w : World} {l : List Nd} {A : Option Addr} {n c : Nat} (h : Tree S w l (.slice A n c)) (k : Nat) (hk : k ≤ l.length) : Tree S w (l.take k) (.slice A k c) := by
  cases h with
  | mk R l A c hl hc hcell hat hkids =>
    subst hl
    have hk' : k ≤ R.length := by simpa using hk
    have e : ncells (R.take k) = (ncells R).take (k * 5) := by
      have h1 : ncells R = ncells (R.take k) ++ ncells (R.drop k) := by rw [← ncells_append, List.take_append_drop]
      rw [h1, List.take_left' (by rw [ncells_length, List.length_take]; omega)]
    have hlen : (((R.take k).map Rn.n)).length = k := by rw [List.length_map, List.length_take]; omega
    have hb : ((R.take k).map Rn.n).length ≤ c := by rw [hlen]; rw [List.length_map] at hc; omega
    have := Tree.mk (S := S) (w := w) (R.take k) ((R.take k).map Rn.n) A c rfl hb (by rw [e]; exact hcell.take _)
      (fun r hr => hat r (List.mem_of_mem_take hr)) (fun r hr => hkids r (List.mem_of_mem_take hr))
    rw [hlen] at this
    rw [← List.map_take]
    exact this

/-! ### lists that the call itself makes -/
/-- The slice v holds the nodes l in a row of the call's own; what hangs on them lies in blocks of S, which that row's is not. -/
def OwnT (w : World) (base : Nat) (S : Nat → Prop) (l : List Nd) (v : Value) : Prop :=
  ∃ R : List Rn, R.map Rn.n = l ∧ w.ownsRow base 35 5 v R.length (ncells R) ∧ (∀ r ∈ R, AttrsAt S w r.n.attrs r.va) ∧ (∀ r ∈ R, Tree S w r.n.kids r.vk) ∧ ∀ g, v.ownBlock = some g → ¬ S g

theorem own_size {w : World} {base : Nat} {e : TypeId} {s : Nat} {v : Value} {n : Nat} {xs : List Value} (h : w.ownsRow base e s v n xs) : ∃ A c, v = .slice A n c ∧ n ≤ c := by
  rcases h.2 with ⟨hv, h0⟩ | ⟨g, cap, cur, hv, _, _, hn, _⟩
  · subst h0
    exact ⟨none, 0, hv, Nat.le_refl _⟩
  · exact ⟨some ⟨g, 0, none⟩, cap, hv, hn⟩

theorem OwnT.nil (w : World) (base : Nat) (S : Nat → Prop) : OwnT w base S [] (.slice none 0 0) := ⟨[], rfl, World.ownsRow_nil _ _ _ _, by simp, by simp, fun g hg => by cases hg⟩
theorem OwnT.tree {w : World} {base : Nat} {S : Nat → Prop} {l : List Nd} {v : Value} (h : OwnT w base S l v) : Tree (fun b => S b ∨ v.ownBlock = some b) w l v := by
  obtain ⟨R, rfl, hown, hat, hk, hS⟩ := h
  obtain ⟨A, c, rfl, hc⟩ := own_size hown
  have := Tree.mk (S := fun b => S b ∨ (Value.slice A R.length c).ownBlock = some b) (w := w) R (R.map Rn.n) A c rfl (by rw [List.length_map]; exact hc) ((Cells.own hown).mono fun b hb => .inr hb)
    (fun r hr => (hat r hr).mono fun b hb => .inl hb) (fun r hr => (hk r hr).mono fun b hb => .inl hb)
  rw [List.length_map] at this
  exact this
theorem OwnT.lt {w : World} {base : Nat} {S : Nat → Prop} {l : List Nd} {v : Value} (h : OwnT w base S l v) : ∀ g, v.ownBlock = some g → base ≤ g ∧ g < w.heap.size := by
  obtain ⟨R, rfl, hown, _⟩ := h
  intro g hg
  have := hown.lt g hg
  exact ⟨this.1, this.2⟩
theorem OwnT.shape {w : World} {base : Nat} {S : Nat → Prop} {l : List Nd} {v : Value} (h : OwnT w base S l v) : ∃ A c, v = .slice A l.length c ∧ l.length ≤ c := by
  obtain ⟨R, rfl, hown, _⟩ := h
  rw [List.length_map]
  exact own_size hown

/-- The law of append, and where the new row lies: where the old one lay, or behind all that was. -/
theorem run_append_new {w : World} (base : Nat) (t ty e : TypeId) (i : TypeInfo) (z : Value) (size bytes : Nat) (ht : Tryz.prog.underlying t = some (.slice e)) (hi : Tryz.prog.info? e = some i) (hz : i.zero = some z)
    (hsize : i.size = size) (hby : i.bytes = bytes) (hzs : z.cells.size = size) (hsz : 0 < size)
    (v : Value) (n : Nat) (xs : List Value) (hown : w.ownsRow base e size v n xs)
    (a : Addr) (m c : Nat) (news : List Value) (hl : news.length = m * size) (hnews : ∀ j u, news[j]? = some u → w.cell? (a.add j) = some u) (h1 : ∀ u ∈ news, u.oneCell' = true)
    (h63 : n + m ≤ maxLen) (hbytes : (n + m) * bytes ≤ 140737488355328) (hbase : base ≤ w.heap.size) :
    ∃ v' w', (Builtin.append_ #[t, t] ty #[v, .slice (some a) m c]).run Tryz.prog w = .ok v' w' ∧ w'.ownsRow base e size v' (n + m) (xs ++ news) ∧ w.grownBy w' v.ownBlock ∧ (v'.ownBlock = v.ownBlock ∨ ∀ g, v'.ownBlock = some g → w.heap.size ≤ g) := by
  have hx := hown.1
  rcases hown.2 with ⟨hv, h0⟩ | ⟨g, cap, cur, hv, hg, hh, hn, hcm, hcs, hct⟩
  · subst hv
    subst h0
    have hxs : xs = [] := by
      have := hown.1
      simp at this
      exact this
    subst hxs
    obtain ⟨v', w', hrun, hown', hgr, _⟩ := run_append_own (w := w) w.heap.size t ty e i z size bytes ht hi hz hsize hby hzs hsz (.slice none 0 0) 0 [] (World.ownsRow_nil _ _ _ _) a m c news hl hnews h1 h63 hbytes (Nat.le_refl _)
    exact ⟨v', w', hrun, own_more hown' hbase, hgr, .inr fun g hg => (hown'.lt g hg).1⟩
  · subst hv
    by_cases hfit : n + m ≤ cap
    · obtain ⟨w', hrun, r1, r2⟩ := run_append_fits (P := Tryz.prog) w base t ty e i size ht hi hsize g n cap xs hown a m c news hl hnews h1 hfit
      exact ⟨_, w', hrun, r1, r2, .inl rfl⟩
    · obtain ⟨v', w', hrun, r1, r2⟩ := run_append_arg_grows (P := Tryz.prog) w t ty e i z size bytes ht hi hz hsize hby hzs hsz ⟨g, 0, none⟩ n cap xs hx (hown.cells rfl) a m c news hl hnews (by omega) h63 hbytes
      exact ⟨v', w', hrun, own_more r1 hbase, ⟨r2.os, r2.tape, r2.output, r2.size, fun k hk _ => r2.block k hk (by simp)⟩, .inr fun g hg => (r1.lt g hg).1⟩

end Go.Proofs.YthmnnalamaponaaGreat
