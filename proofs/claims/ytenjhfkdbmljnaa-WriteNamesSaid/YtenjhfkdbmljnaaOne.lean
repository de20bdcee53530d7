/- strainerref01.One, follows: their walks. -/
import Derived.Test.YtenjhfkdbmljnaaMem
import Derived.Test.YtenjhfkdbmljnaaMathU
namespace Go.Proofs.Ytenjhfkdbmljnaa
open Go.RowKit
set_option linter.unusedVariables false

/-- Is it a byte that goes on? -/
def folB (x : Nat) : Bool := decide (128 ≤ x ∧ x < 192)

theorem folB_cont {l : List UInt8} {j : Nat} (h : j < l.length) : cont l j = folB (byt l j) := by
  unfold cont folB
  rw [Bool.eq_iff_iff]
  simp
  omega

/-- What has been reckoned after the bytes ahead of the k-th. -/
def oneV (l : List UInt8) (v0 : Int) : Nat → Int
  | 0 => v0
  | 1 => v0
  | k + 2 => 64 * oneV l v0 (k + 1) + byt l (k + 1) - 128

theorem oneV_step (l : List UInt8) (v0 : Int) {k : Nat} (h : 1 ≤ k) : oneV l v0 (k + 1) = 64 * oneV l v0 k + byt l k - 128 := by
  obtain ⟨m, rfl⟩ : ∃ m, k = m + 1 := ⟨k - 1, by omega⟩
  rfl

theorem oneV_bd (l : List UInt8) (v0 : Int) (h0 : 0 ≤ v0) (h1 : v0 ≤ 31) : ∀ k, k ≤ 4 → -1000000 ≤ oneV l v0 k ∧ oneV l v0 k ≤ 20000000
  | 0, _ => by show -1000000 ≤ v0 ∧ v0 ≤ 20000000; omega
  | 1, _ => by show -1000000 ≤ v0 ∧ v0 ≤ 20000000; omega
  | 2, _ => by
    have b1 := byt_lt l 1
    show -1000000 ≤ 64 * v0 + byt l 1 - 128 ∧ 64 * v0 + byt l 1 - 128 ≤ 20000000
    omega
  | 3, _ => by
    have b1 := byt_lt l 1
    have b2 := byt_lt l 2
    show -1000000 ≤ 64 * (64 * v0 + byt l 1 - 128) + byt l 2 - 128 ∧ 64 * (64 * v0 + byt l 1 - 128) + byt l 2 - 128 ≤ 20000000
    omega
  | 4, _ => by
    have b1 := byt_lt l 1
    have b2 := byt_lt l 2
    have b3 := byt_lt l 3
    show -1000000 ≤ 64 * (64 * (64 * v0 + byt l 1 - 128) + byt l 2 - 128) + byt l 3 - 128 ∧ 64 * (64 * (64 * v0 + byt l 1 - 128) + byt l 2 - 128) + byt l 3 - 128 ≤ 20000000
    omega
  | k + 5, h => by omega

theorem ret_two {k k' : IntKind} {a b c d : Int} (h : a = b) (h' : c = d) : Ending.returned (.tuple #[.int k a, .int k' c]) = .returned (.tuple #[.int k b, .int k' d]) := by rw [h, h']

theorem folB_yes {x : Nat} (h : 128 ≤ x ∧ x < 192) : folB x = true := by unfold folB; exact decide_eq_true h
theorem folB_no {x : Nat} (h : ¬ (128 ≤ x ∧ x < 192)) : folB x = false := by unfold folB; exact decide_eq_false h

set_option maxHeartbeats 400000 in
theorem follows_any (x : Nat) (w : World) (hx : x < 256) :
    Calls Try.prog 53 #[.int .u8 x] w fun e w' => e = .returned (.bool (folB x)) ∧ w = w' := by
  by_cases h1 : 128 ≤ x
  · by_cases h2 : x < 192
    · have hd := Lib.hid (folB_yes ⟨h1, h2⟩)
      go_enter Try.func53, Try.ntmps53
      go_wp2
      go_ret
      exact ⟨by rw [hd.out]; simp [go_sem]; omega, rfl⟩
    · have hd := Lib.hid (folB_no (x := x) (by omega))
      go_enter Try.func53, Try.ntmps53
      go_wp2
      go_ret
      exact ⟨by rw [hd.out]; simp [go_sem]; omega, rfl⟩
  · have hd := Lib.hid (folB_no (x := x) (by omega))
    go_enter Try.func53, Try.ntmps53
    go_wp2
    go_ret
    exact ⟨by rw [hd.out]; rfl, rfl⟩

theorem dec_low {l : List UInt8} (h : byt l 0 < 128) : dec l = (byt l 0, 1) := by unfold dec; rw [if_pos h]
theorem dec_none {l : List UInt8} (h : (128 ≤ byt l 0 ∧ byt l 0 < 192) ∨ 248 ≤ byt l 0) : dec l = (65533, 1) := by
  have b0 := byt_lt l 0
  unfold dec
  rw [if_neg (by omega), if_neg (by omega), if_neg (by omega), if_neg (by omega)]

theorem cont_short {l : List UInt8} {j : Nat} (h : ¬ j < l.length) : cont l j = false := by
  unfold cont
  simp
  omega

theorem dec_stop2 {l : List UInt8} (h1 : 192 ≤ byt l 0) (h2 : byt l 0 < 224) {j : Nat} (hj : 1 ≤ j) (hj' : j < 2) (hk : cont l j = false) : dec l = (65533, 1) := by
  obtain rfl : j = 1 := by omega
  unfold dec
  rw [if_neg (by omega), if_neg (by rw [hk]; simp), if_neg (by omega), if_neg (by omega)]

theorem dec_all2 {l : List UInt8} (h1 : 192 ≤ byt l 0) (h2 : byt l 0 < 224) (hl : 2 ≤ l.length) (c1 : folB (byt l 1) = true) :
    dec l = if (oneV l ((byt l 0 : Int) - 192) 2 < 128 ∨ 1114111 < oneV l ((byt l 0 : Int) - 192) 2 ∨ (55296 ≤ oneV l ((byt l 0 : Int) - 192) 2 ∧ oneV l ((byt l 0 : Int) - 192) 2 ≤ 57343)) then (65533, 1) else ((oneV l ((byt l 0 : Int) - 192) 2).toNat, 2) := by
  have k1 : cont l 1 = true := (folB_cont (by omega)).trans c1
  have f1 : 128 ≤ byt l 1 ∧ byt l 1 < 192 := of_decide_eq_true c1
  have e : oneV l ((byt l 0 : Int) - 192) 2 = 64 * ((byt l 0 : Int) - 192) + byt l 1 - 128 := rfl
  rw [e]
  clear e
  unfold dec
  rw [if_neg (by omega), if_pos ⟨by omega, k1⟩]
  split
  · rw [if_neg (by omega)]
    simp only [Prod.mk.injEq, and_true]
    omega
  · rw [if_pos (by omega)]

set_option maxHeartbeats 1000000 in
set_option maxRecDepth 100000 in
theorem one_2 (b o c : Nat) (l : List UInt8) (w : World) (hcell : ∀ j, j < l.length → w.cell? ⟨b, o + j, none⟩ = some (.int .u8 (byt l j))) (hm : l.length ≤ maxLen) (hp : 0 < l.length)
    (h1 : 192 ≤ byt l 0) (h2 : byt l 0 < 224) :
    Calls Try.prog 44 #[.slice (some ⟨b, o, none⟩) l.length c] w fun e w' => e = .returned (.tuple #[.int .i32 (dec l).1, .int .i64 (dec l).2]) ∧ w = w' := by
  unfold maxLen at hm
  have hc0 : w.cell? ⟨b, o, none⟩ = some (.int .u8 (byt l 0)) := hcell 0 hp
  have HC := Lib.hid hcell
  clear hcell
  by_cases hs : l.length < 2
  · have HD := Lib.hid (dec_stop2 h1 h2 (j := 1) (by omega) (by omega) (cont_short (by omega)))
    go_enter Try.func44, Try.ntmps44
    go_wp2
    go_ret2
    exact ⟨by rw [HD.out]; rfl, rfl⟩
  · have B1 : decide ((byt l 0 : Int) < 128) = false := by simp; omega
    have B224 : decide ((byt l 0 : Int) < 224) = true := by simp; omega
    have BL : decide ((l.length : Int) < 2) = false := by simp; omega
    go_enter Try.func44, Try.ntmps44
    go_wp2
    go_loop [6, 8] (fun v i => ∃ k : Nat, 1 ≤ k ∧ k ≤ 2 ∧ i = .int .i64 k ∧ v = .int .i64 (oneV l ((byt l 0 : Int) - 192) k) ∧ Hid (∀ j, 1 ≤ j → j < k → folB (byt l j) = true)) (fun _ i => 2 - (intOf i).toNat)
    case atStart => exact ⟨1, by omega, by omega, rfl, rfl, Lib.hid (fun j _ _ => by omega)⟩
    case round =>
      obtain ⟨k, hk1, hk2, rfl, rfl, HA⟩ := hrel
      have hv := oneV_bd l ((byt l 0 : Int) - 192) (by omega) (by omega) k (by omega)
      by_cases hlt : k < 2
      · have hck := HC.out k (by omega)
        have hb := byt_lt l k
        have hst := oneV_step l ((byt l 0 : Int) - 192) hk1
        by_cases hf : folB (byt l k) = true
        · have hst' := hst.symm
          have HST := Lib.hid hst'
          have HF := Lib.hid hf
          clear hst hst'
          go_wp2_with (go_at_call 53; refine (follows_any _ _ hb).mono ?_; rintro e w' ⟨rfl, rfl⟩)
          go_round
          case rel =>
            refine ⟨k + 1, by omega, by omega, by go_num, by rw [← HST.out], Lib.hid (fun j ha hb' => ?_)⟩
            by_cases hj : j = k
            · rw [hj]; exact HF.out
            · exact HA.out j ha (by omega)
          case measure => simp [intOf]; omega
        · have hf' : folB (byt l k) = false := by simpa using hf
          have HD := Lib.hid (dec_stop2 h1 h2 hk1 hlt ((folB_cont (by omega)).trans hf'))
          clear hst hf
          go_wp2_with (go_at_call 53; refine (follows_any _ _ hb).mono ?_; rintro e w' ⟨rfl, rfl⟩)
          go_ret2
          exact ⟨by rw [HD.out]; rfl, rfl⟩
      · obtain rfl : k = 2 := by omega
        have hd := dec_all2 h1 h2 (by omega) (HA.out 1 (by omega) (by omega))
        generalize oneV l ((byt l 0 : Int) - 192) 2 = V at *
        by_cases hbad : (V < 128 ∨ 1114111 < V ∨ (55296 ≤ V ∧ V ≤ 57343))
        · rw [if_pos hbad] at hd
          have HD := Lib.hid hd
          clear hd
          rcases hbad with hb1 | hb1 | hb1
          · go_wp2
            go_ret2
            exact ⟨by rw [HD.out]; rfl, rfl⟩
          · have hb0 : ¬ V < 128 := by omega
            go_wp2
            go_ret2
            exact ⟨by rw [HD.out]; rfl, rfl⟩
          · obtain ⟨hb2, hb3⟩ := hb1
            have hb1 : ¬ 1114111 < V := by omega
            by_cases hb0 : V < 128
            · go_wp2
              go_ret2
              exact ⟨by rw [HD.out]; rfl, rfl⟩
            · go_wp2
              go_ret2
              exact ⟨by rw [HD.out]; rfl, rfl⟩
        · rw [if_neg hbad] at hd
          have HD := Lib.hid hd
          clear hd
          have g1 : 128 ≤ V := by omega
          have g2 : V ≤ 1114111 := by omega
          by_cases g3 : 55296 ≤ V
          · have g4 : 57343 < V := by omega
            go_wp2
            go_ret2
            exact ⟨by rw [HD.out]; exact ret_two (by simp; omega) rfl, rfl⟩
          · go_wp2
            go_ret2
            exact ⟨by rw [HD.out]; exact ret_two (by simp; omega) rfl, rfl⟩

theorem dec_stop3 {l : List UInt8} (h1 : 224 ≤ byt l 0) (h2 : byt l 0 < 240) {j : Nat} (hj : 1 ≤ j) (hj' : j < 3) (hk : cont l j = false) : dec l = (65533, 1) := by
  have : j = 1 ∨ j = 2 := by omega
  unfold dec
  rw [if_neg (by omega), if_neg (by omega)]
  rw [if_neg (by rcases this with rfl | rfl <;> (rw [hk]; simp)), if_neg (by omega)]

theorem dec_all3 {l : List UInt8} (h1 : 224 ≤ byt l 0) (h2 : byt l 0 < 240) (hl : 3 ≤ l.length) (c1 : folB (byt l 1) = true) (c2 : folB (byt l 2) = true) :
    dec l = if (oneV l ((byt l 0 : Int) - 224) 3 < 2048 ∨ 1114111 < oneV l ((byt l 0 : Int) - 224) 3 ∨ (55296 ≤ oneV l ((byt l 0 : Int) - 224) 3 ∧ oneV l ((byt l 0 : Int) - 224) 3 ≤ 57343)) then (65533, 1) else ((oneV l ((byt l 0 : Int) - 224) 3).toNat, 3) := by
  have k1 : cont l 1 = true := (folB_cont (by omega)).trans c1
  have f1 : 128 ≤ byt l 1 ∧ byt l 1 < 192 := of_decide_eq_true c1
  have k2 : cont l 2 = true := (folB_cont (by omega)).trans c2
  have f2 : 128 ≤ byt l 2 ∧ byt l 2 < 192 := of_decide_eq_true c2
  have e : oneV l ((byt l 0 : Int) - 224) 3 = 64 * (64 * ((byt l 0 : Int) - 224) + byt l 1 - 128) + byt l 2 - 128 := rfl
  rw [e]
  clear e
  unfold dec
  rw [if_neg (by omega), if_neg (by omega), if_pos ⟨by omega, k1, k2⟩]
  split
  · rw [if_neg (by omega)]
    simp only [Prod.mk.injEq, and_true]
    omega
  · rw [if_pos (by omega)]

set_option maxHeartbeats 1000000 in
set_option maxRecDepth 100000 in
theorem one_3 (b o c : Nat) (l : List UInt8) (w : World) (hcell : ∀ j, j < l.length → w.cell? ⟨b, o + j, none⟩ = some (.int .u8 (byt l j))) (hm : l.length ≤ maxLen) (hp : 0 < l.length)
    (h1 : 224 ≤ byt l 0) (h2 : byt l 0 < 240) :
    Calls Try.prog 44 #[.slice (some ⟨b, o, none⟩) l.length c] w fun e w' => e = .returned (.tuple #[.int .i32 (dec l).1, .int .i64 (dec l).2]) ∧ w = w' := by
  unfold maxLen at hm
  have hc0 : w.cell? ⟨b, o, none⟩ = some (.int .u8 (byt l 0)) := hcell 0 hp
  have HC := Lib.hid hcell
  clear hcell
  by_cases hs : l.length < 3
  · have HD := Lib.hid (dec_stop3 h1 h2 (j := 2) (by omega) (by omega) (cont_short (by omega)))
    go_enter Try.func44, Try.ntmps44
    go_wp2
    go_ret2
    exact ⟨by rw [HD.out]; rfl, rfl⟩
  · have B1 : decide ((byt l 0 : Int) < 128) = false := by simp; omega
    have B224 : decide ((byt l 0 : Int) < 224) = false := by simp; omega
    have B240 : decide ((byt l 0 : Int) < 240) = true := by simp; omega
    have BL : decide ((l.length : Int) < 3) = false := by simp; omega
    go_enter Try.func44, Try.ntmps44
    go_wp2
    go_loop [6, 8] (fun v i => ∃ k : Nat, 1 ≤ k ∧ k ≤ 3 ∧ i = .int .i64 k ∧ v = .int .i64 (oneV l ((byt l 0 : Int) - 224) k) ∧ Hid (∀ j, 1 ≤ j → j < k → folB (byt l j) = true)) (fun _ i => 3 - (intOf i).toNat)
    case atStart => exact ⟨1, by omega, by omega, rfl, rfl, Lib.hid (fun j _ _ => by omega)⟩
    case round =>
      obtain ⟨k, hk1, hk2, rfl, rfl, HA⟩ := hrel
      have hv := oneV_bd l ((byt l 0 : Int) - 224) (by omega) (by omega) k (by omega)
      by_cases hlt : k < 3
      · have hck := HC.out k (by omega)
        have hb := byt_lt l k
        have hst := oneV_step l ((byt l 0 : Int) - 224) hk1
        by_cases hf : folB (byt l k) = true
        · have hst' := hst.symm
          have HST := Lib.hid hst'
          have HF := Lib.hid hf
          clear hst hst'
          go_wp2_with (go_at_call 53; refine (follows_any _ _ hb).mono ?_; rintro e w' ⟨rfl, rfl⟩)
          go_round
          case rel =>
            refine ⟨k + 1, by omega, by omega, by go_num, by rw [← HST.out], Lib.hid (fun j ha hb' => ?_)⟩
            by_cases hj : j = k
            · rw [hj]; exact HF.out
            · exact HA.out j ha (by omega)
          case measure => simp [intOf]; omega
        · have hf' : folB (byt l k) = false := by simpa using hf
          have HD := Lib.hid (dec_stop3 h1 h2 hk1 hlt ((folB_cont (by omega)).trans hf'))
          clear hst hf
          go_wp2_with (go_at_call 53; refine (follows_any _ _ hb).mono ?_; rintro e w' ⟨rfl, rfl⟩)
          go_ret2
          exact ⟨by rw [HD.out]; rfl, rfl⟩
      · obtain rfl : k = 3 := by omega
        have hd := dec_all3 h1 h2 (by omega) (HA.out 1 (by omega) (by omega)) (HA.out 2 (by omega) (by omega))
        generalize oneV l ((byt l 0 : Int) - 224) 3 = V at *
        by_cases hbad : (V < 2048 ∨ 1114111 < V ∨ (55296 ≤ V ∧ V ≤ 57343))
        · rw [if_pos hbad] at hd
          have HD := Lib.hid hd
          clear hd
          rcases hbad with hb1 | hb1 | hb1
          · go_wp2
            go_ret2
            exact ⟨by rw [HD.out]; rfl, rfl⟩
          · have hb0 : ¬ V < 2048 := by omega
            go_wp2
            go_ret2
            exact ⟨by rw [HD.out]; rfl, rfl⟩
          · obtain ⟨hb2, hb3⟩ := hb1
            have hb1 : ¬ 1114111 < V := by omega
            by_cases hb0 : V < 2048
            · go_wp2
              go_ret2
              exact ⟨by rw [HD.out]; rfl, rfl⟩
            · go_wp2
              go_ret2
              exact ⟨by rw [HD.out]; rfl, rfl⟩
        · rw [if_neg hbad] at hd
          have HD := Lib.hid hd
          clear hd
          have g1 : 2048 ≤ V := by omega
          have g2 : V ≤ 1114111 := by omega
          by_cases g3 : 55296 ≤ V
          · have g4 : 57343 < V := by omega
            go_wp2
            go_ret2
            exact ⟨by rw [HD.out]; exact ret_two (by simp; omega) rfl, rfl⟩
          · go_wp2
            go_ret2
            exact ⟨by rw [HD.out]; exact ret_two (by simp; omega) rfl, rfl⟩

theorem dec_stop4 {l : List UInt8} (h1 : 240 ≤ byt l 0) (h2 : byt l 0 < 248) {j : Nat} (hj : 1 ≤ j) (hj' : j < 4) (hk : cont l j = false) : dec l = (65533, 1) := by
  have : j = 1 ∨ j = 2 ∨ j = 3 := by omega
  unfold dec
  rw [if_neg (by omega), if_neg (by omega), if_neg (by omega)]
  rw [if_neg (by rcases this with rfl | rfl | rfl <;> (rw [hk]; simp))]

theorem dec_all4 {l : List UInt8} (h1 : 240 ≤ byt l 0) (h2 : byt l 0 < 248) (hl : 4 ≤ l.length) (c1 : folB (byt l 1) = true) (c2 : folB (byt l 2) = true) (c3 : folB (byt l 3) = true) :
    dec l = if (oneV l ((byt l 0 : Int) - 240) 4 < 65536 ∨ 1114111 < oneV l ((byt l 0 : Int) - 240) 4 ∨ (55296 ≤ oneV l ((byt l 0 : Int) - 240) 4 ∧ oneV l ((byt l 0 : Int) - 240) 4 ≤ 57343)) then (65533, 1) else ((oneV l ((byt l 0 : Int) - 240) 4).toNat, 4) := by
  have k1 : cont l 1 = true := (folB_cont (by omega)).trans c1
  have f1 : 128 ≤ byt l 1 ∧ byt l 1 < 192 := of_decide_eq_true c1
  have k2 : cont l 2 = true := (folB_cont (by omega)).trans c2
  have f2 : 128 ≤ byt l 2 ∧ byt l 2 < 192 := of_decide_eq_true c2
  have k3 : cont l 3 = true := (folB_cont (by omega)).trans c3
  have f3 : 128 ≤ byt l 3 ∧ byt l 3 < 192 := of_decide_eq_true c3
  have e : oneV l ((byt l 0 : Int) - 240) 4 = 64 * (64 * (64 * ((byt l 0 : Int) - 240) + byt l 1 - 128) + byt l 2 - 128) + byt l 3 - 128 := rfl
  rw [e]
  clear e
  unfold dec
  rw [if_neg (by omega), if_neg (by omega), if_neg (by omega), if_pos ⟨by omega, k1, k2, k3⟩]
  split
  · rw [if_neg (by omega)]
    simp only [Prod.mk.injEq, and_true]
    omega
  · rw [if_pos (by omega)]

set_option maxHeartbeats 1000000 in
set_option maxRecDepth 100000 in
theorem one_4 (b o c : Nat) (l : List UInt8) (w : World) (hcell : ∀ j, j < l.length → w.cell? ⟨b, o + j, none⟩ = some (.int .u8 (byt l j))) (hm : l.length ≤ maxLen) (hp : 0 < l.length)
    (h1 : 240 ≤ byt l 0) (h2 : byt l 0 < 248) :
    Calls Try.prog 44 #[.slice (some ⟨b, o, none⟩) l.length c] w fun e w' => e = .returned (.tuple #[.int .i32 (dec l).1, .int .i64 (dec l).2]) ∧ w = w' := by
  unfold maxLen at hm
  have hc0 : w.cell? ⟨b, o, none⟩ = some (.int .u8 (byt l 0)) := hcell 0 hp
  have HC := Lib.hid hcell
  clear hcell
  by_cases hs : l.length < 4
  · have HD := Lib.hid (dec_stop4 h1 h2 (j := 3) (by omega) (by omega) (cont_short (by omega)))
    go_enter Try.func44, Try.ntmps44
    go_wp2
    go_ret2
    exact ⟨by rw [HD.out]; rfl, rfl⟩
  · have B1 : decide ((byt l 0 : Int) < 128) = false := by simp; omega
    have B224 : decide ((byt l 0 : Int) < 224) = false := by simp; omega
    have B240 : decide ((byt l 0 : Int) < 240) = false := by simp; omega
    have B248 : decide ((byt l 0 : Int) < 248) = true := by simp; omega
    have BL : decide ((l.length : Int) < 4) = false := by simp; omega
    go_enter Try.func44, Try.ntmps44
    go_wp2
    go_loop [6, 8] (fun v i => ∃ k : Nat, 1 ≤ k ∧ k ≤ 4 ∧ i = .int .i64 k ∧ v = .int .i64 (oneV l ((byt l 0 : Int) - 240) k) ∧ Hid (∀ j, 1 ≤ j → j < k → folB (byt l j) = true)) (fun _ i => 4 - (intOf i).toNat)
    case atStart => exact ⟨1, by omega, by omega, rfl, rfl, Lib.hid (fun j _ _ => by omega)⟩
    case round =>
      obtain ⟨k, hk1, hk2, rfl, rfl, HA⟩ := hrel
      have hv := oneV_bd l ((byt l 0 : Int) - 240) (by omega) (by omega) k (by omega)
      by_cases hlt : k < 4
      · have hck := HC.out k (by omega)
        have hb := byt_lt l k
        have hst := oneV_step l ((byt l 0 : Int) - 240) hk1
        by_cases hf : folB (byt l k) = true
        · have hst' := hst.symm
          have HST := Lib.hid hst'
          have HF := Lib.hid hf
          clear hst hst'
          go_wp2_with (go_at_call 53; refine (follows_any _ _ hb).mono ?_; rintro e w' ⟨rfl, rfl⟩)
          go_round
          case rel =>
            refine ⟨k + 1, by omega, by omega, by go_num, by rw [← HST.out], Lib.hid (fun j ha hb' => ?_)⟩
            by_cases hj : j = k
            · rw [hj]; exact HF.out
            · exact HA.out j ha (by omega)
          case measure => simp [intOf]; omega
        · have hf' : folB (byt l k) = false := by simpa using hf
          have HD := Lib.hid (dec_stop4 h1 h2 hk1 hlt ((folB_cont (by omega)).trans hf'))
          clear hst hf
          go_wp2_with (go_at_call 53; refine (follows_any _ _ hb).mono ?_; rintro e w' ⟨rfl, rfl⟩)
          go_ret2
          exact ⟨by rw [HD.out]; rfl, rfl⟩
      · obtain rfl : k = 4 := by omega
        have hd := dec_all4 h1 h2 (by omega) (HA.out 1 (by omega) (by omega)) (HA.out 2 (by omega) (by omega)) (HA.out 3 (by omega) (by omega))
        generalize oneV l ((byt l 0 : Int) - 240) 4 = V at *
        by_cases hbad : (V < 65536 ∨ 1114111 < V ∨ (55296 ≤ V ∧ V ≤ 57343))
        · rw [if_pos hbad] at hd
          have HD := Lib.hid hd
          clear hd
          rcases hbad with hb1 | hb1 | hb1
          · go_wp2
            go_ret2
            exact ⟨by rw [HD.out]; rfl, rfl⟩
          · have hb0 : ¬ V < 65536 := by omega
            go_wp2
            go_ret2
            exact ⟨by rw [HD.out]; rfl, rfl⟩
          · obtain ⟨hb2, hb3⟩ := hb1
            have hb1 : ¬ 1114111 < V := by omega
            by_cases hb0 : V < 65536
            · go_wp2
              go_ret2
              exact ⟨by rw [HD.out]; rfl, rfl⟩
            · omega
        · rw [if_neg hbad] at hd
          have HD := Lib.hid hd
          clear hd
          have g1 : 65536 ≤ V := by omega
          have g2 : V ≤ 1114111 := by omega
          by_cases g3 : 55296 ≤ V
          · have g4 : 57343 < V := by omega
            go_wp2
            go_ret2
            exact ⟨by rw [HD.out]; exact ret_two (by simp; omega) rfl, rfl⟩
          · omega

set_option maxHeartbeats 1000000 in
set_option maxRecDepth 100000 in
theorem one_any (b o c : Nat) (l : List UInt8) (w : World) (hcell : ∀ j, j < l.length → w.cell? ⟨b, o + j, none⟩ = some (.int .u8 (byt l j))) (hm : l.length ≤ maxLen) (hp : 0 < l.length) :
    Calls Try.prog 44 #[.slice (some ⟨b, o, none⟩) l.length c] w fun e w' => e = .returned (.tuple #[.int .i32 (dec l).1, .int .i64 (dec l).2]) ∧ w = w' := by
  have b0 := byt_lt l 0
  by_cases a2 : 192 ≤ byt l 0 ∧ byt l 0 < 224
  · exact one_2 b o c l w hcell hm hp a2.1 a2.2
  by_cases a3 : 224 ≤ byt l 0 ∧ byt l 0 < 240
  · exact one_3 b o c l w hcell hm hp a3.1 a3.2
  by_cases a4 : 240 ≤ byt l 0 ∧ byt l 0 < 248
  · exact one_4 b o c l w hcell hm hp a4.1 a4.2
  have hc0 : w.cell? ⟨b, o, none⟩ = some (.int .u8 (byt l 0)) := hcell 0 hp
  clear hcell
  unfold maxLen at hm
  by_cases h1 : byt l 0 < 128
  · have HD := Lib.hid (dec_low h1)
    clear a2 a3 a4
    go_enter Try.func44, Try.ntmps44
    go_wp2
    go_ret2
    exact ⟨by rw [HD.out]; rfl, rfl⟩
  · have HD := Lib.hid (dec_none (l := l) (by omega))
    by_cases h3 : byt l 0 < 192
    · clear a2 a3 a4
      go_enter Try.func44, Try.ntmps44
      go_wp2
      go_ret2
      exact ⟨by rw [HD.out]; rfl, rfl⟩
    · have h4 : 248 ≤ byt l 0 := by omega
      clear a2 a3 a4
      go_enter Try.func44, Try.ntmps44
      go_wp2
      go_ret2
      exact ⟨by rw [HD.out]; rfl, rfl⟩

theorem one_sits {b o n c : Nat} {l : List UInt8} {w : World} (hcell : ∀ j u, (Lib.byteCells l)[j]? = some u → w.cell? ⟨b, o + j, none⟩ = some u) (hn : n = l.length) (hm : l.length ≤ maxLen) (hp : 0 < l.length) :
    Calls Try.prog 44 #[.slice (some ⟨b, o, none⟩) n c] w fun e w' => e = .returned (.tuple #[.int .i32 (dec l).1, .int .i64 (dec l).2]) ∧ w = w' := by
  subst hn
  exact one_any b o c l w (fun j hj => hcell j _ (byteCells_at hj)) hm hp

end Go.Proofs.Ytenjhfkdbmljnaa
