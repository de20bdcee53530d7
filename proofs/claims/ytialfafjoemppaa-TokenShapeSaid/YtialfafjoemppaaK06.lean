/- Parts of the proof, in build order: One RunesR BytesR TextR RightR Lw5 EscR. -/
import Derived.Test.YtialfafjoemppaaK01
import Derived.Test.YtialfafjoemppaaK02
import Derived.Test.YtialfafjoemppaaK03
import Derived.Test.YtialfafjoemppaaK05
import Derived.BigQuiet

/- Part One. -/
namespace Go.Proofs.Ytialfafjoemppaa
open Go.RowKit
set_option linter.unusedVariables false

/-- Is it a byte that goes on? -/
def folB (x : Nat) : Bool := decide (128 ≤ x ∧ x < 192)

theorem folB_cont {l : List UInt8} {j : Nat} (h : j < l.length) : cont l j = folB (byt l j) := by
  unfold cont folB
  rw [Bool.eq_iff_iff]
  simp
  omega

/-- What has been reckoned after the bytes ahead of the k-th. -/
def oneV (l : List UInt8) (v0 : Int) : Nat → Int
  | 0 => v0
  | 1 => v0
  | k + 2 => 64 * oneV l v0 (k + 1) + byt l (k + 1) - 128

theorem oneV_step (l : List UInt8) (v0 : Int) {k : Nat} (h : 1 ≤ k) : oneV l v0 (k + 1) = 64 * oneV l v0 k + byt l k - 128 := by
  obtain ⟨m, rfl⟩ : ∃ m, k = m + 1 := ⟨k - 1, by omega⟩
  rfl

theorem oneV_bd (l : List UInt8) (v0 : Int) (h0 : 0 ≤ v0) (h1 : v0 ≤ 31) : ∀ k, k ≤ 4 → -1000000 ≤ oneV l v0 k ∧ oneV l v0 k ≤ 20000000
  | 0, _ => by show -1000000 ≤ v0 ∧ v0 ≤ 20000000; omega
  | 1, _ => by show -1000000 ≤ v0 ∧ v0 ≤ 20000000; omega
  | 2, _ => by
    have b1 := byt_lt l 1
    show -1000000 ≤ 64 * v0 + byt l 1 - 128 ∧ 64 * v0 + byt l 1 - 128 ≤ 20000000
    omega
  | 3, _ => by
    have b1 := byt_lt l 1
    have b2 := byt_lt l 2
    show -1000000 ≤ 64 * (64 * v0 + byt l 1 - 128) + byt l 2 - 128 ∧ 64 * (64 * v0 + byt l 1 - 128) + byt l 2 - 128 ≤ 20000000
    omega
  | 4, _ => by
    have b1 := byt_lt l 1
    have b2 := byt_lt l 2
    have b3 := byt_lt l 3
    show -1000000 ≤ 64 * (64 * (64 * v0 + byt l 1 - 128) + byt l 2 - 128) + byt l 3 - 128 ∧ 64 * (64 * (64 * v0 + byt l 1 - 128) + byt l 2 - 128) + byt l 3 - 128 ≤ 20000000
    omega
  | k + 5, h => by omega

theorem ret_two {k k' : IntKind} {a b c d : Int} (h : a = b) (h' : c = d) : Ending.returned (.tuple #[.int k a, .int k' c]) = .returned (.tuple #[.int k b, .int k' d]) := by rw [h, h']

theorem folB_yes {x : Nat} (h : 128 ≤ x ∧ x < 192) : folB x = true := by unfold folB; exact decide_eq_true h
theorem folB_no {x : Nat} (h : ¬ (128 ≤ x ∧ x < 192)) : folB x = false := by unfold folB; exact decide_eq_false h

set_option maxHeartbeats 400000 in
theorem follows_any (x : Nat) (w : World) (hx : x < 256) :
    Calls Try.prog 75 #[.int .u8 x] w fun e w' => e = .returned (.bool (folB x)) ∧ w = w' := by
  by_cases h1 : 128 ≤ x
  · by_cases h2 : x < 192
    · have hd := Lib.hid (folB_yes ⟨h1, h2⟩)
      go_enter Try.func75, Try.ntmps75
      go_wp2
      go_ret
      exact ⟨by rw [hd.out]; simp [go_sem]; omega, rfl⟩
    · have hd := Lib.hid (folB_no (x := x) (by omega))
      go_enter Try.func75, Try.ntmps75
      go_wp2
      go_ret
      exact ⟨by rw [hd.out]; simp [go_sem]; omega, rfl⟩
  · have hd := Lib.hid (folB_no (x := x) (by omega))
    go_enter Try.func75, Try.ntmps75
    go_wp2
    go_ret
    exact ⟨by rw [hd.out]; rfl, rfl⟩

theorem dec_low {l : List UInt8} (h : byt l 0 < 128) : dec l = (byt l 0, 1) := by unfold dec; rw [if_pos h]
theorem dec_none {l : List UInt8} (h : (128 ≤ byt l 0 ∧ byt l 0 < 192) ∨ 248 ≤ byt l 0) : dec l = (65533, 1) := by
  have b0 := byt_lt l 0
  unfold dec
  rw [if_neg (by omega), if_neg (by omega), if_neg (by omega), if_neg (by omega)]

theorem cont_short {l : List UInt8} {j : Nat} (h : ¬ j < l.length) : cont l j = false := by
  unfold cont
  simp
  omega

theorem dec_stop2 {l : List UInt8} (h1 : 192 ≤ byt l 0) (h2 : byt l 0 < 224) {j : Nat} (hj : 1 ≤ j) (hj' : j < 2) (hk : cont l j = false) : dec l = (65533, 1) := by
  obtain rfl : j = 1 := by omega
  unfold dec
  rw [if_neg (by omega), if_neg (by rw [hk]; simp), if_neg (by omega), if_neg (by omega)]

theorem dec_all2 {l : List UInt8} (h1 : 192 ≤ byt l 0) (h2 : byt l 0 < 224) (hl : 2 ≤ l.length) (c1 : folB (byt l 1) = true) :
    dec l = if (oneV l ((byt l 0 : Int) - 192) 2 < 128 ∨ 1114111 < oneV l ((byt l 0 : Int) - 192) 2 ∨ (55296 ≤ oneV l ((byt l 0 : Int) - 192) 2 ∧ oneV l ((byt l 0 : Int) - 192) 2 ≤ 57343)) then (65533, 1) else ((oneV l ((byt l 0 : Int) - 192) 2).toNat, 2) := by
  have k1 : cont l 1 = true := (folB_cont (by omega)).trans c1
  have f1 : 128 ≤ byt l 1 ∧ byt l 1 < 192 := of_decide_eq_true c1
  have e : oneV l ((byt l 0 : Int) - 192) 2 = 64 * ((byt l 0 : Int) - 192) + byt l 1 - 128 := rfl
  rw [e]
  clear e
  unfold dec
  rw [if_neg (by omega), if_pos ⟨by omega, k1⟩]
  split
  · rw [if_neg (by omega)]
    simp only [Prod.mk.injEq, and_true]
    omega
  · rw [if_pos (by omega)]

set_option maxHeartbeats 1000000 in
set_option maxRecDepth 100000 in
theorem one_2 (b o c : Nat) (l : List UInt8) (w : World) (hcell : ∀ j, j < l.length → w.cell? ⟨b, o + j, none⟩ = some (.int .u8 (byt l j))) (hm : l.length ≤ maxLen) (hp : 0 < l.length)
    (h1 : 192 ≤ byt l 0) (h2 : byt l 0 < 224) :
    Calls Try.prog 56 #[.slice (some ⟨b, o, none⟩) l.length c] w fun e w' => e = .returned (.tuple #[.int .i32 (dec l).1, .int .i64 (dec l).2]) ∧ w = w' := by
  unfold maxLen at hm
  have hc0 : w.cell? ⟨b, o, none⟩ = some (.int .u8 (byt l 0)) := hcell 0 hp
  have HC := Lib.hid hcell
  clear hcell
  by_cases hs : l.length < 2
  · have HD := Lib.hid (dec_stop2 h1 h2 (j := 1) (by omega) (by omega) (cont_short (by omega)))
    go_enter Try.func56, Try.ntmps56
    go_wp2
    go_ret2
    exact ⟨by rw [HD.out]; rfl, rfl⟩
  · have B1 : decide ((byt l 0 : Int) < 128) = false := by simp; omega
    have B224 : decide ((byt l 0 : Int) < 224) = true := by simp; omega
    have BL : decide ((l.length : Int) < 2) = false := by simp; omega
    go_enter Try.func56, Try.ntmps56
    go_wp2
    go_loop [6, 8] (fun v i => ∃ k : Nat, 1 ≤ k ∧ k ≤ 2 ∧ i = .int .i64 k ∧ v = .int .i64 (oneV l ((byt l 0 : Int) - 192) k) ∧ Hid (∀ j, 1 ≤ j → j < k → folB (byt l j) = true)) (fun _ i => 2 - (intOf i).toNat)
    case atStart => exact ⟨1, by omega, by omega, rfl, rfl, Lib.hid (fun j _ _ => by omega)⟩
    case round =>
      obtain ⟨k, hk1, hk2, rfl, rfl, HA⟩ := hrel
      have hv := oneV_bd l ((byt l 0 : Int) - 192) (by omega) (by omega) k (by omega)
      by_cases hlt : k < 2
      · have hck := HC.out k (by omega)
        have hb := byt_lt l k
        have hst := oneV_step l ((byt l 0 : Int) - 192) hk1
        by_cases hf : folB (byt l k) = true
        · have hst' := hst.symm
          have HST := Lib.hid hst'
          have HF := Lib.hid hf
          clear hst hst'
          go_wp2_with (go_at_call 75; refine (follows_any _ _ hb).mono ?_; rintro e w' ⟨rfl, rfl⟩)
          go_round
          case rel =>
            refine ⟨k + 1, by omega, by omega, by go_num, by rw [← HST.out], Lib.hid (fun j ha hb' => ?_)⟩
            by_cases hj : j = k
            · rw [hj]; exact HF.out
            · exact HA.out j ha (by omega)
          case measure => simp [intOf]; omega
        · have hf' : folB (byt l k) = false := by simpa using hf
          have HD := Lib.hid (dec_stop2 h1 h2 hk1 hlt ((folB_cont (by omega)).trans hf'))
          clear hst hf
          go_wp2_with (go_at_call 75; refine (follows_any _ _ hb).mono ?_; rintro e w' ⟨rfl, rfl⟩)
          go_ret2
          exact ⟨by rw [HD.out]; rfl, rfl⟩
      · obtain rfl : k = 2 := by omega
        have hd := dec_all2 h1 h2 (by omega) (HA.out 1 (by omega) (by omega))
        generalize oneV l ((byt l 0 : Int) - 192) 2 = V at *
        by_cases hbad : (V < 128 ∨ 1114111 < V ∨ (55296 ≤ V ∧ V ≤ 57343))
        · rw [if_pos hbad] at hd
          have HD := Lib.hid hd
          clear hd
          rcases hbad with hb1 | hb1 | hb1
          · go_wp2
            go_ret2
            exact ⟨by rw [HD.out]; rfl, rfl⟩
          · have hb0 : ¬ V < 128 := by omega
            go_wp2
            go_ret2
            exact ⟨by rw [HD.out]; rfl, rfl⟩
          · obtain ⟨hb2, hb3⟩ := hb1
            have hb1 : ¬ 1114111 < V := by omega
            by_cases hb0 : V < 128
            · go_wp2
              go_ret2
              exact ⟨by rw [HD.out]; rfl, rfl⟩
            · go_wp2
              go_ret2
              exact ⟨by rw [HD.out]; rfl, rfl⟩
        · rw [if_neg hbad] at hd
          have HD := Lib.hid hd
          clear hd
          have g1 : 128 ≤ V := by omega
          have g2 : V ≤ 1114111 := by omega
          by_cases g3 : 55296 ≤ V
          · have g4 : 57343 < V := by omega
            go_wp2
            go_ret2
            exact ⟨by rw [HD.out]; exact ret_two (by simp; omega) rfl, rfl⟩
          · go_wp2
            go_ret2
            exact ⟨by rw [HD.out]; exact ret_two (by simp; omega) rfl, rfl⟩

theorem dec_stop3 {l : List UInt8} (h1 : 224 ≤ byt l 0) (h2 : byt l 0 < 240) {j : Nat} (hj : 1 ≤ j) (hj' : j < 3) (hk : cont l j = false) : dec l = (65533, 1) := by
  have : j = 1 ∨ j = 2 := by omega
  unfold dec
  rw [if_neg (by omega), if_neg (by omega)]
  rw [if_neg (by rcases this with rfl | rfl <;> (rw [hk]; simp)), if_neg (by omega)]

theorem dec_all3 {l : List UInt8} (h1 : 224 ≤ byt l 0) (h2 : byt l 0 < 240) (hl : 3 ≤ l.length) (c1 : folB (byt l 1) = true) (c2 : folB (byt l 2) = true) :
    dec l = if (oneV l ((byt l 0 : Int) - 224) 3 < 2048 ∨ 1114111 < oneV l ((byt l 0 : Int) - 224) 3 ∨ (55296 ≤ oneV l ((byt l 0 : Int) - 224) 3 ∧ oneV l ((byt l 0 : Int) - 224) 3 ≤ 57343)) then (65533, 1) else ((oneV l ((byt l 0 : Int) - 224) 3).toNat, 3) := by
  have k1 : cont l 1 = true := (folB_cont (by omega)).trans c1
  have f1 : 128 ≤ byt l 1 ∧ byt l 1 < 192 := of_decide_eq_true c1
  have k2 : cont l 2 = true := (folB_cont (by omega)).trans c2
  have f2 : 128 ≤ byt l 2 ∧ byt l 2 < 192 := of_decide_eq_true c2
  have e : oneV l ((byt l 0 : Int) - 224) 3 = 64 * (64 * ((byt l 0 : Int) - 224) + byt l 1 - 128) + byt l 2 - 128 := rfl
  rw [e]
  clear e
  unfold dec
  rw [if_neg (by omega), if_neg (by omega), if_pos ⟨by omega, k1, k2⟩]
  split
  · rw [if_neg (by omega)]
    simp only [Prod.mk.injEq, and_true]
    omega
  · rw [if_pos (by omega)]

set_option maxHeartbeats 1000000 in
set_option maxRecDepth 100000 in
theorem one_3 (b o c : Nat) (l : List UInt8) (w : World) (hcell : ∀ j, j < l.length → w.cell? ⟨b, o + j, none⟩ = some (.int .u8 (byt l j))) (hm : l.length ≤ maxLen) (hp : 0 < l.length)
    (h1 : 224 ≤ byt l 0) (h2 : byt l 0 < 240) :
    Calls Try.prog 56 #[.slice (some ⟨b, o, none⟩) l.length c] w fun e w' => e = .returned (.tuple #[.int .i32 (dec l).1, .int .i64 (dec l).2]) ∧ w = w' := by
  unfold maxLen at hm
  have hc0 : w.cell? ⟨b, o, none⟩ = some (.int .u8 (byt l 0)) := hcell 0 hp
  have HC := Lib.hid hcell
  clear hcell
  by_cases hs : l.length < 3
  · have HD := Lib.hid (dec_stop3 h1 h2 (j := 2) (by omega) (by omega) (cont_short (by omega)))
    go_enter Try.func56, Try.ntmps56
    go_wp2
    go_ret2
    exact ⟨by rw [HD.out]; rfl, rfl⟩
  · have B1 : decide ((byt l 0 : Int) < 128) = false := by simp; omega
    have B224 : decide ((byt l 0 : Int) < 224) = false := by simp; omega
    have B240 : decide ((byt l 0 : Int) < 240) = true := by simp; omega
    have BL : decide ((l.length : Int) < 3) = false := by simp; omega
    go_enter Try.func56, Try.ntmps56
    go_wp2
    go_loop [6, 8] (fun v i => ∃ k : Nat, 1 ≤ k ∧ k ≤ 3 ∧ i = .int .i64 k ∧ v = .int .i64 (oneV l ((byt l 0 : Int) - 224) k) ∧ Hid (∀ j, 1 ≤ j → j < k → folB (byt l j) = true)) (fun _ i => 3 - (intOf i).toNat)
    case atStart => exact ⟨1, by omega, by omega, rfl, rfl, Lib.hid (fun j _ _ => by omega)⟩
    case round =>
      obtain ⟨k, hk1, hk2, rfl, rfl, HA⟩ := hrel
      have hv := oneV_bd l ((byt l 0 : Int) - 224) (by omega) (by omega) k (by omega)
      by_cases hlt : k < 3
      · have hck := HC.out k (by omega)
        have hb := byt_lt l k
        have hst := oneV_step l ((byt l 0 : Int) - 224) hk1
        by_cases hf : folB (byt l k) = true
        · have hst' := hst.symm
          have HST := Lib.hid hst'
          have HF := Lib.hid hf
          clear hst hst'
          go_wp2_with (go_at_call 75; refine (follows_any _ _ hb).mono ?_; rintro e w' ⟨rfl, rfl⟩)
          go_round
          case rel =>
            refine ⟨k + 1, by omega, by omega, by go_num, by rw [← HST.out], Lib.hid (fun j ha hb' => ?_)⟩
            by_cases hj : j = k
            · rw [hj]; exact HF.out
            · exact HA.out j ha (by omega)
          case measure => simp [intOf]; omega
        · have hf' : folB (byt l k) = false := by simpa using hf
          have HD := Lib.hid (dec_stop3 h1 h2 hk1 hlt ((folB_cont (by omega)).trans hf'))
          clear hst hf
          go_wp2_with (go_at_call 75; refine (follows_any _ _ hb).mono ?_; rintro e w' ⟨rfl, rfl⟩)
          go_ret2
          exact ⟨by rw [HD.out]; rfl, rfl⟩
      · obtain rfl : k = 3 := by omega
        have hd := dec_all3 h1 h2 (by omega) (HA.out 1 (by omega) (by omega)) (HA.out 2 (by omega) (by omega))
        generalize oneV l ((byt l 0 : Int) - 224) 3 = V at *
        by_cases hbad : (V < 2048 ∨ 1114111 < V ∨ (55296 ≤ V ∧ V ≤ 57343))
        · rw [if_pos hbad] at hd
          have HD := Lib.hid hd
          clear hd
          rcases hbad with hb1 | hb1 | hb1
          · go_wp2
            go_ret2
            exact ⟨by rw [HD.out]; rfl, rfl⟩
          · have hb0 : ¬ V < 2048 := by omega
            go_wp2
            go_ret2
            exact ⟨by rw [HD.out]; rfl, rfl⟩
          · obtain ⟨hb2, hb3⟩ := hb1
            have hb1 : ¬ 1114111 < V := by omega
            by_cases hb0 : V < 2048
            · go_wp2
              go_ret2
              exact ⟨by rw [HD.out]; rfl, rfl⟩
            · go_wp2
              go_ret2
              exact ⟨by rw [HD.out]; rfl, rfl⟩
        · rw [if_neg hbad] at hd
          have HD := Lib.hid hd
          clear hd
          have g1 : 2048 ≤ V := by omega
          have g2 : V ≤ 1114111 := by omega
          by_cases g3 : 55296 ≤ V
          · have g4 : 57343 < V := by omega
            go_wp2
            go_ret2
            exact ⟨by rw [HD.out]; exact ret_two (by simp; omega) rfl, rfl⟩
          · go_wp2
            go_ret2
            exact ⟨by rw [HD.out]; exact ret_two (by simp; omega) rfl, rfl⟩

theorem dec_stop4 {l : List UInt8} (h1 : 240 ≤ byt l 0) (h2 : byt l 0 < 248) {j : Nat} (hj : 1 ≤ j) (hj' : j < 4) (hk : cont l j = false) : dec l = (65533, 1) := by
  have : j = 1 ∨ j = 2 ∨ j = 3 := by omega
  unfold dec
  rw [if_neg (by omega), if_neg (by omega), if_neg (by omega)]
  rw [if_neg (by rcases this with rfl | rfl | rfl <;> (rw [hk]; simp))]

theorem dec_all4 {l : List UInt8} (h1 : 240 ≤ byt l 0) (h2 : byt l 0 < 248) (hl : 4 ≤ l.length) (c1 : folB (byt l 1) = true) (c2 : folB (byt l 2) = true) (c3 : folB (byt l 3) = true) :
    dec l = if (oneV l ((byt l 0 : Int) - 240) 4 < 65536 ∨ 1114111 < oneV l ((byt l 0 : Int) - 240) 4 ∨ (55296 ≤ oneV l ((byt l 0 : Int) - 240) 4 ∧ oneV l ((byt l 0 : Int) - 240) 4 ≤ 57343)) then (65533, 1) else ((oneV l ((byt l 0 : Int) - 240) 4).toNat, 4) := by
  have k1 : cont l 1 = true := (folB_cont (by omega)).trans c1
  have f1 : 128 ≤ byt l 1 ∧ byt l 1 < 192 := of_decide_eq_true c1
  have k2 : cont l 2 = true := (folB_cont (by omega)).trans c2
  have f2 : 128 ≤ byt l 2 ∧ byt l 2 < 192 := of_decide_eq_true c2
  have k3 : cont l 3 = true := (folB_cont (by omega)).trans c3
  have f3 : 128 ≤ byt l 3 ∧ byt l 3 < 192 := of_decide_eq_true c3
  have e : oneV l ((byt l 0 : Int) - 240) 4 = 64 * (64 * (64 * ((byt l 0 : Int) - 240) + byt l 1 - 128) + byt l 2 - 128) + byt l 3 - 128 := rfl
  rw [e]
  clear e
  unfold dec
  rw [if_neg (by omega), if_neg (by omega), if_neg (by omega), if_pos ⟨by omega, k1, k2, k3⟩]
  split
  · rw [if_neg (by omega)]
    simp only [Prod.mk.injEq, and_true]
    omega
  · rw [if_pos (by omega)]

set_option maxHeartbeats 1000000 in
set_option maxRecDepth 100000 in
theorem one_4 (b o c : Nat) (l : List UInt8) (w : World) (hcell : ∀ j, j < l.length → w.cell? ⟨b, o + j, none⟩ = some (.int .u8 (byt l j))) (hm : l.length ≤ maxLen) (hp : 0 < l.length)
    (h1 : 240 ≤ byt l 0) (h2 : byt l 0 < 248) :
    Calls Try.prog 56 #[.slice (some ⟨b, o, none⟩) l.length c] w fun e w' => e = .returned (.tuple #[.int .i32 (dec l).1, .int .i64 (dec l).2]) ∧ w = w' := by
  unfold maxLen at hm
  have hc0 : w.cell? ⟨b, o, none⟩ = some (.int .u8 (byt l 0)) := hcell 0 hp
  have HC := Lib.hid hcell
  clear hcell
  by_cases hs : l.length < 4
  · have HD := Lib.hid (dec_stop4 h1 h2 (j := 3) (by omega) (by omega) (cont_short (by omega)))
    go_enter Try.func56, Try.ntmps56
    go_wp2
    go_ret2
    exact ⟨by rw [HD.out]; rfl, rfl⟩
  · have B1 : decide ((byt l 0 : Int) < 128) = false := by simp; omega
    have B224 : decide ((byt l 0 : Int) < 224) = false := by simp; omega
    have B240 : decide ((byt l 0 : Int) < 240) = false := by simp; omega
    have B248 : decide ((byt l 0 : Int) < 248) = true := by simp; omega
    have BL : decide ((l.length : Int) < 4) = false := by simp; omega
    go_enter Try.func56, Try.ntmps56
    go_wp2
    go_loop [6, 8] (fun v i => ∃ k : Nat, 1 ≤ k ∧ k ≤ 4 ∧ i = .int .i64 k ∧ v = .int .i64 (oneV l ((byt l 0 : Int) - 240) k) ∧ Hid (∀ j, 1 ≤ j → j < k → folB (byt l j) = true)) (fun _ i => 4 - (intOf i).toNat)
    case atStart => exact ⟨1, by omega, by omega, rfl, rfl, Lib.hid (fun j _ _ => by omega)⟩
    case round =>
      obtain ⟨k, hk1, hk2, rfl, rfl, HA⟩ := hrel
      have hv := oneV_bd l ((byt l 0 : Int) - 240) (by omega) (by omega) k (by omega)
      by_cases hlt : k < 4
      · have hck := HC.out k (by omega)
        have hb := byt_lt l k
        have hst := oneV_step l ((byt l 0 : Int) - 240) hk1
        by_cases hf : folB (byt l k) = true
        · have hst' := hst.symm
          have HST := Lib.hid hst'
          have HF := Lib.hid hf
          clear hst hst'
          go_wp2_with (go_at_call 75; refine (follows_any _ _ hb).mono ?_; rintro e w' ⟨rfl, rfl⟩)
          go_round
          case rel =>
            refine ⟨k + 1, by omega, by omega, by go_num, by rw [← HST.out], Lib.hid (fun j ha hb' => ?_)⟩
            by_cases hj : j = k
            · rw [hj]; exact HF.out
            · exact HA.out j ha (by omega)
          case measure => simp [intOf]; omega
        · have hf' : folB (byt l k) = false := by simpa using hf
          have HD := Lib.hid (dec_stop4 h1 h2 hk1 hlt ((folB_cont (by omega)).trans hf'))
          clear hst hf
          go_wp2_with (go_at_call 75; refine (follows_any _ _ hb).mono ?_; rintro e w' ⟨rfl, rfl⟩)
          go_ret2
          exact ⟨by rw [HD.out]; rfl, rfl⟩
      · obtain rfl : k = 4 := by omega
        have hd := dec_all4 h1 h2 (by omega) (HA.out 1 (by omega) (by omega)) (HA.out 2 (by omega) (by omega)) (HA.out 3 (by omega) (by omega))
        generalize oneV l ((byt l 0 : Int) - 240) 4 = V at *
        by_cases hbad : (V < 65536 ∨ 1114111 < V ∨ (55296 ≤ V ∧ V ≤ 57343))
        · rw [if_pos hbad] at hd
          have HD := Lib.hid hd
          clear hd
          rcases hbad with hb1 | hb1 | hb1
          · go_wp2
            go_ret2
            exact ⟨by rw [HD.out]; rfl, rfl⟩
          · have hb0 : ¬ V < 65536 := by omega
            go_wp2
            go_ret2
            exact ⟨by rw [HD.out]; rfl, rfl⟩
          · obtain ⟨hb2, hb3⟩ := hb1
            have hb1 : ¬ 1114111 < V := by omega
            by_cases hb0 : V < 65536
            · go_wp2
              go_ret2
              exact ⟨by rw [HD.out]; rfl, rfl⟩
            · omega
        · rw [if_neg hbad] at hd
          have HD := Lib.hid hd
          clear hd
          have g1 : 65536 ≤ V := by omega
          have g2 : V ≤ 1114111 := by omega
          by_cases g3 : 55296 ≤ V
          · have g4 : 57343 < V := by omega
            go_wp2
            go_ret2
            exact ⟨by rw [HD.out]; exact ret_two (by simp; omega) rfl, rfl⟩
          · omega

set_option maxHeartbeats 1000000 in
set_option maxRecDepth 100000 in
theorem one_any (b o c : Nat) (l : List UInt8) (w : World) (hcell : ∀ j, j < l.length → w.cell? ⟨b, o + j, none⟩ = some (.int .u8 (byt l j))) (hm : l.length ≤ maxLen) (hp : 0 < l.length) :
    Calls Try.prog 56 #[.slice (some ⟨b, o, none⟩) l.length c] w fun e w' => e = .returned (.tuple #[.int .i32 (dec l).1, .int .i64 (dec l).2]) ∧ w = w' := by
  have b0 := byt_lt l 0
  by_cases a2 : 192 ≤ byt l 0 ∧ byt l 0 < 224
  · exact one_2 b o c l w hcell hm hp a2.1 a2.2
  by_cases a3 : 224 ≤ byt l 0 ∧ byt l 0 < 240
  · exact one_3 b o c l w hcell hm hp a3.1 a3.2
  by_cases a4 : 240 ≤ byt l 0 ∧ byt l 0 < 248
  · exact one_4 b o c l w hcell hm hp a4.1 a4.2
  have hc0 : w.cell? ⟨b, o, none⟩ = some (.int .u8 (byt l 0)) := hcell 0 hp
  clear hcell
  unfold maxLen at hm
  by_cases h1 : byt l 0 < 128
  · have HD := Lib.hid (dec_low h1)
    clear a2 a3 a4
    go_enter Try.func56, Try.ntmps56
    go_wp2
    go_ret2
    exact ⟨by rw [HD.out]; rfl, rfl⟩
  · have HD := Lib.hid (dec_none (l := l) (by omega))
    by_cases h3 : byt l 0 < 192
    · clear a2 a3 a4
      go_enter Try.func56, Try.ntmps56
      go_wp2
      go_ret2
      exact ⟨by rw [HD.out]; rfl, rfl⟩
    · have h4 : 248 ≤ byt l 0 := by omega
      clear a2 a3 a4
      go_enter Try.func56, Try.ntmps56
      go_wp2
      go_ret2
      exact ⟨by rw [HD.out]; rfl, rfl⟩

theorem one_sits {b o n c : Nat} {l : List UInt8} {w : World} (hcell : ∀ j u, (Lib.byteCells l)[j]? = some u → w.cell? ⟨b, o + j, none⟩ = some u) (hn : n = l.length) (hm : l.length ≤ maxLen) (hp : 0 < l.length) :
    Calls Try.prog 56 #[.slice (some ⟨b, o, none⟩) n c] w fun e w' => e = .returned (.tuple #[.int .i32 (dec l).1, .int .i64 (dec l).2]) ∧ w = w' := by
  subst hn
  exact one_any b o c l w (fun j hj => hcell j _ (byteCells_at hj)) hm hp

end Go.Proofs.Ytialfafjoemppaa

/- Part RunesR. -/
namespace Go.Proofs.Ytialfafjoemppaa
open Go.RowKit
set_option linter.unusedVariables false

theorem info_rune : (Try.prog.info? 21).map (fun i => (i.zero, i.size, i.bytes)) = some (some (.int .i32 0), 1, 4) := by kernel_rfl

theorem byteCells_drop (l : List UInt8) (k j : Nat) : (Lib.byteCells (l.drop k))[j]? = (Lib.byteCells l)[k + j]? := by
  unfold Lib.byteCells
  rw [List.getElem?_map, List.getElem?_map, List.getElem?_drop]

/-- Characters as cells. -/
def rcells (l : List Int) : List Value := l.map (Value.int .i32)
theorem rcells_length (l : List Int) : (rcells l).length = l.length := by simp [rcells]
theorem rcells_append (a b : List Int) : rcells (a ++ b) = rcells a ++ rcells b := by simp [rcells]

set_option maxHeartbeats 1000000 in
set_option maxRecDepth 100000 in
theorem runesR_any (A : Option Addr) (c : Nat) (l : List UInt8) (w : World) (hs : Sits w w.heap.size A (Lib.byteCells l)) (hc : l.length ≤ c) (hm : l.length ≤ 1000000) :
    Calls Try.prog 31 #[.slice A l.length c] w fun e w' => ∃ A' c', e = .returned (.slice A' (runes l).length c') ∧ (runes l).length ≤ c' ∧
      w'.ownsRow w.heap.size 21 1 (.slice A' (runes l).length c') (runes l).length (rcells (runes l)) ∧ Below w.heap.size w w' := by
  obtain ⟨i0, hi, hz0, hz1, hz2⟩ := info_parts info_rune
  have HS := Lib.hid hs
  clear hs
  go_enter Try.func31, Try.ntmps31
  go_wp2
  go_loopw [3, 4] (fun v i wr => ∃ (k : Nat) (acc : List Int), k ≤ l.length ∧ i = .int .i64 k ∧ Hid (runes l = acc ++ runes (l.drop k)) ∧ acc.length ≤ k ∧ wr.ownsRow w.heap.size 21 1 v acc.length (rcells acc) ∧ Below w.heap.size w wr) (fun _ i _ => l.length - (intOf i).toNat)
  case atStart => exact ⟨0, [], by omega, rfl, Lib.hid (by simp), by simp, World.ownsRow_nil _ _ _ _, Below.refl _ _⟩
  case round =>
    obtain ⟨k, acc, hk, rfl, HR, hal, hown, hbel⟩ := hrel
    by_cases hlt : k < l.length
    · obtain ⟨b, o, rfl, hb, hcell⟩ := HS.out.open_ (by rw [Lib.byteCells_length]; omega)
      have hcell' : ∀ j u, (Lib.byteCells (l.drop k))[j]? = some u → wr.cell? ⟨b, o + k + j, none⟩ = some u := by
        intro j u hu
        rw [byteCells_drop] at hu
        rw [hbel.cell (p := ⟨b, o + k + j, none⟩) hb, Nat.add_assoc]
        exact hcell _ u hu
      have hw := dec_width (l := l.drop k) (by rw [List.length_drop]; omega)
      rw [List.length_drop] at hw
      have hst := runes_step (l := l.drop k) (by rw [List.length_drop]; omega)
      rw [List.drop_drop] at hst
      have HST := Lib.hid hst
      have HC := Lib.hid hcell'
      clear hst hcell' hcell
      go_wp2_with fail
      refine (one_sits HC.out (by rw [List.length_drop]) (by unfold maxLen; rw [List.length_drop]; omega) (by rw [List.length_drop]; omega)).mono ?_
      rintro e w' ⟨rfl, rfl⟩
      go_wp2_with (at_builtin; refine wpList_append_own _ rfl _ _ 51 rfl w.heap.size 21 i0 (.int .i32 0) 1 4 Try.underlying51 hi hz0 hz1 hz2 rfl (by decide) _ _ _ rfl (hown.alloc _) ⟨wr.heap.size, 0, none⟩ 1 1 [.int .i32 ((dec (l.drop k)).1 : Int)] rfl rfl (new_one _ _ _) (by simp [Value.oneCell']) (by unfold maxLen; omega) (by omega) (by have := hbel.size; simp; omega) ?_; intro v' w1 hown' hgrow _)
      have hB' : Below w.heap.size w w1 := (hbel.alloc hbel.size _).grown hgrow (by have := hbel.size; simp; omega) (fun g hg => (hown.lt g hg).1)
      clear hgrow hown
      go_roundw
      case rel =>
        refine ⟨k + (dec (l.drop k)).2, acc ++ [((dec (l.drop k)).1 : Int)], by omega, by go_num, Lib.hid ?_, by simp; omega, ?_, hB'⟩
        · rw [HR.out, HST.out, List.append_assoc]
          rfl
        · rw [rcells_append, List.length_append]
          exact hown'
      case measure => simp [intOf]; omega
    · have hr : runes l = acc := by
        have := HR.out
        rw [List.drop_of_length_le (by omega), runes_nil, List.append_nil] at this
        exact this
      obtain ⟨A', c', rfl, hcc⟩ := own_shape hown
      have HRR := Lib.hid hr
      clear hr
      go_wp2
      go_ret
      rw [HRR.out]
      exact ⟨A', c', rfl, hcc, hown, hbel⟩

end Go.Proofs.Ytialfafjoemppaa

/- Part BytesR. -/
namespace Go.Proofs.Ytialfafjoemppaa
open Go.RowKit
set_option linter.unusedVariables false

theorem lit_end (w : World) (r : Int) {cs : Array Value} {n : Nat} (hcs : cs.toList = Lib.runeCells r) (hn : cs.size = n) :
    ∃ A' c', Ending.returned (.slice (some ⟨w.heap.size, 0, none⟩) n n) = .returned (.slice A' (Lib.encodeRune r).length c') ∧ (Lib.encodeRune r).length ≤ c' ∧
      (w.alloc (.cells cs 5)).ownsRow w.heap.size 5 1 (.slice A' (Lib.encodeRune r).length c') (Lib.encodeRune r).length (Lib.byteCells (Lib.encodeRune r)) ∧ Below w.heap.size w (w.alloc (.cells cs 5)) := by
  have hl := Lib.runeCells_le r
  have h1 : (Lib.encodeRune r).length = n := by rw [← Lib.runeCells_length, ← hcs, ← hn]; simp
  refine ⟨_, n, by rw [h1], by omega, ?_, (Below.refl _ _).alloc (Nat.le_refl _) _⟩
  rw [Lib.byteCells_encodeRune, ← hcs, h1]
  rw [Lib.runeCells_length] at hl
  exact own_lit w 5 cs n hn (by unfold maxLen; omega)

set_option maxHeartbeats 1000000 in
set_option maxRecDepth 100000 in
theorem bytes_a (r : Int) (w : World) (h0 : -2147483648 ≤ r) (h1 : r ≤ -1) :
    Calls Try.prog 57 #[.int .i32 r] w fun e w' => ∃ A' c', e = .returned (.slice A' (Lib.encodeRune r).length c') ∧ (Lib.encodeRune r).length ≤ c' ∧
      w'.ownsRow w.heap.size 5 1 (.slice A' (Lib.encodeRune r).length c') (Lib.encodeRune r).length (Lib.byteCells (Lib.encodeRune r)) ∧ Below w.heap.size w w' := by
  go_enter Try.func57, Try.ntmps57
  go_wp2
  go_ret
  exact lit_end w r (by unfold Lib.runeCells; rw [Lib.encodeRuneZ_bad (by omega)]; rfl) rfl

set_option maxHeartbeats 1000000 in
set_option maxRecDepth 100000 in
theorem bytes_b (r : Int) (w : World) (h0 : 0 ≤ r) (h1 : r ≤ 127) :
    Calls Try.prog 57 #[.int .i32 r] w fun e w' => ∃ A' c', e = .returned (.slice A' (Lib.encodeRune r).length c') ∧ (Lib.encodeRune r).length ≤ c' ∧
      w'.ownsRow w.heap.size 5 1 (.slice A' (Lib.encodeRune r).length c') (Lib.encodeRune r).length (Lib.byteCells (Lib.encodeRune r)) ∧ Below w.heap.size w w' := by
  go_enter Try.func57, Try.ntmps57
  go_wp2
  go_ret
  exact lit_end w r (by unfold Lib.runeCells; rw [Lib.encodeRuneZ_one (by omega) (by omega)]; rfl) rfl

set_option maxHeartbeats 1000000 in
set_option maxRecDepth 100000 in
theorem bytes_c (r : Int) (w : World) (h0 : 128 ≤ r) (h1 : r ≤ 2047) :
    Calls Try.prog 57 #[.int .i32 r] w fun e w' => ∃ A' c', e = .returned (.slice A' (Lib.encodeRune r).length c') ∧ (Lib.encodeRune r).length ≤ c' ∧
      w'.ownsRow w.heap.size 5 1 (.slice A' (Lib.encodeRune r).length c') (Lib.encodeRune r).length (Lib.byteCells (Lib.encodeRune r)) ∧ Below w.heap.size w w' := by
  go_enter Try.func57, Try.ntmps57
  go_wp2
  go_ret
  exact lit_end w r (by unfold Lib.runeCells; rw [Lib.encodeRuneZ_two (by omega) (by omega)]; rfl) rfl

set_option maxHeartbeats 1000000 in
set_option maxRecDepth 100000 in
theorem bytes_d (r : Int) (w : World) (h0 : 2048 ≤ r) (h1 : r ≤ 55295) :
    Calls Try.prog 57 #[.int .i32 r] w fun e w' => ∃ A' c', e = .returned (.slice A' (Lib.encodeRune r).length c') ∧ (Lib.encodeRune r).length ≤ c' ∧
      w'.ownsRow w.heap.size 5 1 (.slice A' (Lib.encodeRune r).length c') (Lib.encodeRune r).length (Lib.byteCells (Lib.encodeRune r)) ∧ Below w.heap.size w w' := by
  go_enter Try.func57, Try.ntmps57
  go_wp2
  go_ret
  exact lit_end w r (by unfold Lib.runeCells; rw [Lib.encodeRuneZ_three (by omega)]; rfl) rfl

set_option maxHeartbeats 1000000 in
set_option maxRecDepth 100000 in
theorem bytes_e (r : Int) (w : World) (h0 : 55296 ≤ r) (h1 : r ≤ 57343) :
    Calls Try.prog 57 #[.int .i32 r] w fun e w' => ∃ A' c', e = .returned (.slice A' (Lib.encodeRune r).length c') ∧ (Lib.encodeRune r).length ≤ c' ∧
      w'.ownsRow w.heap.size 5 1 (.slice A' (Lib.encodeRune r).length c') (Lib.encodeRune r).length (Lib.byteCells (Lib.encodeRune r)) ∧ Below w.heap.size w w' := by
  go_enter Try.func57, Try.ntmps57
  go_wp2
  go_ret
  exact lit_end w r (by unfold Lib.runeCells; rw [Lib.encodeRuneZ_bad (by omega)]; rfl) rfl

set_option maxHeartbeats 1000000 in
set_option maxRecDepth 100000 in
theorem bytes_f (r : Int) (w : World) (h0 : 57344 ≤ r) (h1 : r ≤ 65535) :
    Calls Try.prog 57 #[.int .i32 r] w fun e w' => ∃ A' c', e = .returned (.slice A' (Lib.encodeRune r).length c') ∧ (Lib.encodeRune r).length ≤ c' ∧
      w'.ownsRow w.heap.size 5 1 (.slice A' (Lib.encodeRune r).length c') (Lib.encodeRune r).length (Lib.byteCells (Lib.encodeRune r)) ∧ Below w.heap.size w w' := by
  go_enter Try.func57, Try.ntmps57
  go_wp2
  go_ret
  exact lit_end w r (by unfold Lib.runeCells; rw [Lib.encodeRuneZ_three (by omega)]; rfl) rfl

set_option maxHeartbeats 1000000 in
set_option maxRecDepth 100000 in
theorem bytes_g (r : Int) (w : World) (h0 : 65536 ≤ r) (h1 : r ≤ 1114111) :
    Calls Try.prog 57 #[.int .i32 r] w fun e w' => ∃ A' c', e = .returned (.slice A' (Lib.encodeRune r).length c') ∧ (Lib.encodeRune r).length ≤ c' ∧
      w'.ownsRow w.heap.size 5 1 (.slice A' (Lib.encodeRune r).length c') (Lib.encodeRune r).length (Lib.byteCells (Lib.encodeRune r)) ∧ Below w.heap.size w w' := by
  go_enter Try.func57, Try.ntmps57
  go_wp2
  go_ret
  exact lit_end w r (by unfold Lib.runeCells; rw [Lib.encodeRuneZ_four (by omega) (by omega)]; rfl) rfl

set_option maxHeartbeats 1000000 in
set_option maxRecDepth 100000 in
theorem bytes_h (r : Int) (w : World) (h0 : 1114112 ≤ r) (h1 : r ≤ 2147483647) :
    Calls Try.prog 57 #[.int .i32 r] w fun e w' => ∃ A' c', e = .returned (.slice A' (Lib.encodeRune r).length c') ∧ (Lib.encodeRune r).length ≤ c' ∧
      w'.ownsRow w.heap.size 5 1 (.slice A' (Lib.encodeRune r).length c') (Lib.encodeRune r).length (Lib.byteCells (Lib.encodeRune r)) ∧ Below w.heap.size w w' := by
  go_enter Try.func57, Try.ntmps57
  go_wp2
  go_ret
  exact lit_end w r (by unfold Lib.runeCells; rw [Lib.encodeRuneZ_bad (by omega)]; rfl) rfl

theorem bytes_any (r : Int) (w : World) (h0 : -2147483648 ≤ r) (h1 : r ≤ 2147483647) :
    Calls Try.prog 57 #[.int .i32 r] w fun e w' => ∃ A' c', e = .returned (.slice A' (Lib.encodeRune r).length c') ∧ (Lib.encodeRune r).length ≤ c' ∧
      w'.ownsRow w.heap.size 5 1 (.slice A' (Lib.encodeRune r).length c') (Lib.encodeRune r).length (Lib.byteCells (Lib.encodeRune r)) ∧ Below w.heap.size w w' := by
  by_cases aa : r ≤ -1
  · exact bytes_a r w (by omega) aa
  by_cases ab : r ≤ 127
  · exact bytes_b r w (by omega) ab
  by_cases ac : r ≤ 2047
  · exact bytes_c r w (by omega) ac
  by_cases ad : r ≤ 55295
  · exact bytes_d r w (by omega) ad
  by_cases ae : r ≤ 57343
  · exact bytes_e r w (by omega) ae
  by_cases af : r ≤ 65535
  · exact bytes_f r w (by omega) af
  by_cases ag : r ≤ 1114111
  · exact bytes_g r w (by omega) ag
  exact bytes_h r w (by omega) h1

theorem info_byte : (Try.prog.info? 5).map (fun i => (i.zero, i.size, i.bytes)) = some (some (.int .u8 0), 1, 1) := by kernel_rfl

end Go.Proofs.Ytialfafjoemppaa

/- Part TextR. -/
namespace Go.Proofs.Ytialfafjoemppaa
open Go.RowKit
set_option linter.unusedVariables false

set_option maxHeartbeats 1000000 in
set_option maxRecDepth 100000 in
theorem textR_any (A : Option Addr) (c : Nat) (l : List Int) (w : World) (hs : Sits w w.heap.size A (rcells l)) (hc : l.length ≤ c) (hm : l.length ≤ 1000000) (h32 : i32s l) :
    Calls Try.prog 32 #[.slice A l.length c] w fun e w' => e = .returned (.string ⟨(enc l).toArray⟩) ∧ Below w.heap.size w w' := by
  obtain ⟨i0, hi, hz0, hz1, hz2⟩ := info_parts info_byte
  have HS := Lib.hid hs
  have H32 := Lib.hid h32
  clear hs h32
  go_enter Try.func32, Try.ntmps32
  go_wp2
  go_loopw [3, 4] (fun v i wr => ∃ (k : Nat) (acc : List UInt8), k ≤ l.length ∧ i = .int .i64 k ∧ Hid (enc l = acc ++ enc (l.drop k)) ∧ acc.length ≤ 4 * k ∧ wr.ownsRow w.heap.size 5 1 v acc.length (Lib.byteCells acc) ∧ Below w.heap.size w wr) (fun _ i _ => l.length - (intOf i).toNat)
  case atStart => exact ⟨0, [], by omega, rfl, Lib.hid (by simp), by simp, World.ownsRow_nil _ _ _ _, Below.refl _ _⟩
  case round =>
    obtain ⟨k, acc, hk, rfl, HR, hal, hown, hbel⟩ := hrel
    by_cases hlt : k < l.length
    · obtain ⟨b, o, rfl, hb, hcell⟩ := HS.out.open_ (by rw [rcells_length]; omega)
      obtain ⟨x, hx⟩ : ∃ x, l[k]? = some x := ⟨_, List.getElem?_eq_getElem hlt⟩
      have q1 : wr.cell? ⟨b, o + k, none⟩ = some (.int .i32 x) := (hbel.cell (p := ⟨b, o + k, none⟩) hb).trans (hcell k _ (by simp [rcells, hx]))
      have hx32 := i32s_at H32.out hx
      have HX := Lib.hid hx
      clear hcell hx
      go_wp2_with fail
      refine (bytes_any x wr hx32.1 hx32.2).mono ?_
      rintro e w1 ⟨A1, c1, rfl, hcc, hown1, hb1⟩
      have hl4 := Lib.runeCells_le x
      rw [Lib.runeCells_length] at hl4
      obtain ⟨g, rfl, hnews⟩ := own_addr hown1 (by omega)
      have hown2 := own_below hown hb1
      have hB1 := below_after hbel hb1
      clear hown1 hown hb1 q1
      obtain ⟨m, hm'⟩ : ∃ m, m = (Lib.encodeRune x).length := ⟨_, rfl⟩
      rw [← hm'] at hcc hl4 ⊢
      have HM := Lib.hid hm'
      clear hm'
      go_wp2_with (at_builtin; refine wpList_append_own _ rfl _ _ 36 rfl w.heap.size 5 i0 (.int .u8 0) 1 1 Try.underlying36 hi hz0 hz1 hz2 rfl (by decide) _ _ _ rfl hown2 ⟨g, 0, none⟩ m c1 (Lib.byteCells (Lib.encodeRune x)) rfl (by rw [Lib.byteCells_length, HM.out]; omega) hnews (byteCells_one _) (by unfold maxLen; omega) (by omega) hB1.size ?_; intro v' w2 hown' hgrow _)
      have hB2 : Below w.heap.size w w2 := hB1.grown hgrow hB1.size (fun g hg => (hown2.lt g hg).1)
      clear hgrow hown2 hnews
      go_roundw
      case rel =>
        refine ⟨k + 1, acc ++ Lib.encodeRune x, by omega, by go_num, Lib.hid ?_, by have := HM.out; simp; omega, ?_, hB2⟩
        · rw [HR.out, drop_at HX.out, enc_cons, List.append_assoc]
        · rw [Lib.byteCells_append, List.length_append, ← HM.out]
          exact hown'
      case measure => simp [intOf]; omega
    · have hr : enc l = acc := by
        have := HR.out
        rw [List.drop_of_length_le (by omega), enc_nil, List.append_nil] at this
        exact this
      obtain ⟨A', c', rfl, hcc⟩ := own_shape hown
      have HRR := Lib.hid hr
      clear hr
      have kc := convert_bytes (A := A') (c := c') (B := wr.heap.size) (Sits.own hown)
      go_wp2
      go_ret
      rw [HRR.out]
      exact ⟨rfl, hbel⟩

end Go.Proofs.Ytialfafjoemppaa

/- Part RightR. -/
namespace Go.Proofs.Ytialfafjoemppaa
open Go.RowKit
set_option linter.unusedVariables false

/-- The character ahead of the k-th, or 0. -/
def prev (R : List Int) (k : Nat) : Int := if k = 0 then 0 else R.getD (k - 1) 0

theorem prev_zero (R : List Int) : prev R 0 = 0 := rfl
theorem prev_succ {R : List Int} {k : Nat} {x : Int} (h : R[k]? = some x) : prev R (k + 1) = x := by
  unfold prev
  rw [if_neg (by omega), Nat.add_sub_cancel, List.getD_eq_getElem?_getD, h]
  rfl

theorem okR_i32 {l : List Int} (h : ∀ r ∈ l, okR r) : i32s l := by
  intro r hr
  have := h r hr
  unfold okR at this
  omega

structure RightRAt (w1 wr : World) (R : List Int) (v : Value) (k : Nat) (acc : List Int) : Prop where
  le : k ≤ R.length
  is : norm 0 R = acc ++ norm (prev R k) (R.drop k)
  len : acc.length ≤ k
  own : wr.ownsRow w1.heap.size 21 1 v acc.length (rcells acc)
  bel : Below w1.heap.size w1 wr

/-- A character is appended. -/
theorem RightRAt.put {w1 wr w2 : World} {R : List Int} {v v' : Value} {k : Nat} {acc : List Int} {x y : Int} {o : Obj} (h : RightRAt w1 wr R v k acc) (hx : R[k]? = some x)
    (hn : ∀ t, norm (prev R k) (x :: t) = y :: norm x t) (hown : w2.ownsRow w1.heap.size 21 1 v' (acc.length + 1) (rcells acc ++ [.int .i32 y])) (hg : (wr.alloc o).grownBy w2 v.ownBlock) :
    RightRAt w1 w2 R v' (k + 1) (acc ++ [y]) := by
  have hk := (List.getElem?_eq_some_iff.1 hx).1
  refine ⟨by omega, ?_, by have := h.len; simp; omega, ?_, ?_⟩
  · rw [h.is, drop_at hx, hn, prev_succ hx, List.append_assoc]
    rfl
  · rw [rcells_append, List.length_append]
    exact hown
  · exact (h.bel.alloc h.bel.size _).grown hg (by have := h.bel.size; simp; omega) (fun g hg => (h.own.lt g hg).1)

/-- A character is passed over. -/
theorem RightRAt.pass {w1 wr : World} {R : List Int} {v : Value} {k : Nat} {acc : List Int} (h : RightRAt w1 wr R v k acc) (hx : R[k]? = some 10) (hp : prev R k = 13) : RightRAt w1 wr R v (k + 1) acc := by
  have hk := (List.getElem?_eq_some_iff.1 hx).1
  refine ⟨by omega, ?_, by have := h.len; omega, h.own, h.bel⟩
  rw [h.is, drop_at hx, hp, norm_10, prev_succ hx]

set_option maxHeartbeats 2000000 in
set_option maxRecDepth 100000 in
theorem rightR_any (A : Option Addr) (c : Nat) (l : List UInt8) (w : World) (hs : Sits w w.heap.size A (Lib.byteCells l)) (hc : l.length ≤ c) (hm : l.length ≤ 1000000) :
    Calls Try.prog 18 #[.slice A l.length c] w fun e w' => e = .returned (.string ⟨(right l).toArray⟩) ∧ Below w.heap.size w w' := by
  obtain ⟨i0, hi, hz0, hz1, hz2⟩ := info_parts info_rune
  have hrl := runes_len _ l (Nat.le_refl _)
  have hrok := runes_ok _ l (Nat.le_refl _)
  go_enter Try.func18, Try.ntmps18
  go_wp2_with fail
  refine (runesR_any A c l _ hs hc hm).mono ?_
  rintro e w1 ⟨A1, c1, rfl, hc1, hown1, hb1⟩
  have hsit := Lib.hid (Sits.own hown1)
  clear hown1 hs
  obtain ⟨R, hR⟩ : ∃ R, R = runes l := ⟨_, rfl⟩
  rw [← hR] at hc1 hsit hrl hrok ⊢
  have hfin : right l = enc (norm 0 R) := by rw [hR]; rfl
  have HF := Lib.hid hfin
  have HK := Lib.hid hrok
  clear hR hfin hrok
  go_wp2_with fail
  go_loopw [4, 5] (fun v i wr => ∃ (k : Nat) (acc : List Int), i = .int .i64 k ∧ RightRAt w1 wr R v k acc) (fun _ i _ => R.length - (intOf i).toNat)
  case atStart => exact ⟨0, [], rfl, by omega, by rw [prev_zero]; rfl, by simp, World.ownsRow_nil _ _ _ _, Below.refl _ _⟩
  case round =>
    obtain ⟨k, acc, rfl, HR⟩ := hrel
    have hle := HR.le
    have hlen := HR.len
    by_cases hlt : k < R.length
    · obtain ⟨b, o, rfl, hb, hcell⟩ := hsit.out.open_ (by rw [rcells_length]; omega)
      obtain ⟨x, hx⟩ : ∃ x, R[k]? = some x := ⟨_, List.getElem?_eq_getElem hlt⟩
      have q1 : wr.cell? ⟨b, o + k, none⟩ = some (.int .i32 x) := (HR.bel.cell (p := ⟨b, o + k, none⟩) hb).trans (hcell k _ (by simp [rcells, hx]))
      have HX := Lib.hid hx
      clear hx
      by_cases h10 : x = 10
      · subst h10
        by_cases hk0 : k = 0
        · have hkf : decide ((0 : Int) < (k : Int)) = false := by simp [hk0]
          have hkn : ¬ (0 : Int) < (k : Int) := by omega
          have HK0 := Lib.hid hk0
          clear hcell hk0
          go_wp2_with (at_builtin; refine wpList_append_own _ rfl _ _ 51 rfl w1.heap.size 21 i0 (.int .i32 0) 1 4 Try.underlying51 hi hz0 hz1 hz2 rfl (by decide) _ _ _ rfl (HR.own.alloc _) ⟨wr.heap.size, 0, none⟩ 1 1 [.int .i32 10] rfl rfl (new_one _ _ _) (by simp [Value.oneCell']) (by unfold maxLen; omega) (by omega) (by have := HR.bel.size; simp; omega) ?_; intro v' w2 hown' hgrow _)
          have HR2 := HR.put HX.out (fun t => by rw [HK0.out, prev_zero]; exact norm_r t (by omega) (by omega) (by omega)) hown' hgrow
          clear hgrow hown'
          go_roundw
          case rel => exact ⟨k + 1, acc ++ [10], by go_num, HR2⟩
          case measure => simp [intOf]; omega

        · have hkp : 0 < k := by omega
          have hkp' : (0 : Int) < (k : Int) := by omega
          obtain ⟨p, hp⟩ : ∃ p, R[k - 1]? = some p := ⟨_, List.getElem?_eq_getElem (by omega)⟩
          have hpr : prev R k = p := by
            unfold prev
            rw [if_neg hk0, List.getD_eq_getElem?_getD, hp]
            rfl
          have q2 : wr.cell? ⟨b, o + (k - 1), none⟩ = some (.int .i32 p) := (HR.bel.cell (p := ⟨b, o + (k - 1), none⟩) hb).trans (hcell (k - 1) _ (by simp [rcells, hp]))
          have HP := Lib.hid hpr
          clear hpr hp hcell
          have i1 : (0 : Int) ≤ (k : Int) - 1 := by omega
          have i2 : (k : Int) - 1 < (R.length : Int) := by omega
          by_cases h13 : p = 13
          · subst h13
            go_wp2
            go_roundw
            case rel => exact ⟨k + 1, acc, by go_num, HR.pass HX.out HP.out⟩
            case measure => simp [intOf]; omega
          · have B13 : (p == 13) = false := by simp [h13]
            go_wp2_with (at_builtin; refine wpList_append_own _ rfl _ _ 51 rfl w1.heap.size 21 i0 (.int .i32 0) 1 4 Try.underlying51 hi hz0 hz1 hz2 rfl (by decide) _ _ _ rfl (HR.own.alloc _) ⟨wr.heap.size, 0, none⟩ 1 1 [.int .i32 10] rfl rfl (new_one _ _ _) (by simp [Value.oneCell']) (by unfold maxLen; omega) (by omega) (by have := HR.bel.size; simp; omega) ?_; intro v' w2 hown' hgrow _)
            have HR2 := HR.put HX.out (fun t => by rw [HP.out]; exact norm_r t (by omega) (by omega) (by omega)) hown' hgrow
            clear hgrow hown'
            go_roundw
            case rel => exact ⟨k + 1, acc ++ [10], by go_num, HR2⟩
            case measure => simp [intOf]; omega

      · have B10 : (x == 10) = false := by simp [h10]
        clear hcell
        by_cases h13 : x = 13
        · subst h13
          go_wp2_with (at_builtin; refine wpList_append_own _ rfl _ _ 51 rfl w1.heap.size 21 i0 (.int .i32 0) 1 4 Try.underlying51 hi hz0 hz1 hz2 rfl (by decide) _ _ _ rfl (HR.own.alloc _) ⟨wr.heap.size, 0, none⟩ 1 1 [.int .i32 10] rfl rfl (new_one _ _ _) (by simp [Value.oneCell']) (by unfold maxLen; omega) (by omega) (by have := HR.bel.size; simp; omega) ?_; intro v' w2 hown' hgrow _)
          have HR2 := HR.put HX.out (fun t => norm_13 _ t) hown' hgrow
          clear hgrow hown'
          go_roundw
          case rel => exact ⟨k + 1, acc ++ [10], by go_num, HR2⟩
          case measure => simp [intOf]; omega

        · have B13 : (x == 13) = false := by simp [h13]
          by_cases h0 : x = 0
          · subst h0
            go_wp2_with (at_builtin; refine wpList_append_own _ rfl _ _ 51 rfl w1.heap.size 21 i0 (.int .i32 0) 1 4 Try.underlying51 hi hz0 hz1 hz2 rfl (by decide) _ _ _ rfl (HR.own.alloc _) ⟨wr.heap.size, 0, none⟩ 1 1 [.int .i32 65533] rfl rfl (new_one _ _ _) (by simp [Value.oneCell']) (by unfold maxLen; omega) (by omega) (by have := HR.bel.size; simp; omega) ?_; intro v' w2 hown' hgrow _)
            have HR2 := HR.put HX.out (fun t => norm_0 _ t) hown' hgrow
            clear hgrow hown'
            go_roundw
            case rel => exact ⟨k + 1, acc ++ [65533], by go_num, HR2⟩
            case measure => simp [intOf]; omega

          · have B0 : (x == 0) = false := by simp [h0]
            have HN := Lib.hid (fun (t : List Int) => norm_r (a := prev R k) (r := x) t h13 (by omega) h0)
            clear h13 h10 h0
            go_wp2_with (at_builtin; refine wpList_append_own _ rfl _ _ 51 rfl w1.heap.size 21 i0 (.int .i32 0) 1 4 Try.underlying51 hi hz0 hz1 hz2 rfl (by decide) _ _ _ rfl (HR.own.alloc _) ⟨wr.heap.size, 0, none⟩ 1 1 [.int .i32 x] rfl rfl (new_one _ _ _) (by simp [Value.oneCell']) (by unfold maxLen; omega) (by omega) (by have := HR.bel.size; simp; omega) ?_; intro v' w2 hown' hgrow _)
            have HR2 := HR.put HX.out HN.out hown' hgrow
            clear hgrow hown'
            go_roundw
            case rel => exact ⟨k + 1, acc ++ [x], by go_num, HR2⟩
            case measure => simp [intOf]; omega

    · have hr : norm 0 R = acc := by
        have := HR.is
        rw [List.drop_of_length_le (by omega)] at this
        simpa [norm] using this
      obtain ⟨A', c', rfl, hcc⟩ := own_shape HR.own
      have HRR := Lib.hid hr
      have hok : ∀ r ∈ acc, okR r := by
        intro r hr'
        rw [← hr] at hr'
        exact (norm_ok R 0 HK.out r hr').1
      have h32 := okR_i32 hok
      have hsit2 := Sits.own HR.own
      clear hr hok
      go_wp2_with fail
      refine (textR_any A' c' acc wr hsit2 hcc (by omega) h32).mono ?_
      rintro e w2 ⟨rfl, hb2⟩
      have hB2 := below_after (below_after hb1 HR.bel) hb2
      go_wp2
      go_ret
      rw [HF.out, HRR.out]
      exact ⟨rfl, hB2⟩

end Go.Proofs.Ytialfafjoemppaa

/- Part Lw5. -/
namespace Go.Proofs.Ytialfafjoemppaa
open Go.RowKit
set_option linter.unusedVariables false

/-- A text that is right, and not long. -/
def FewRet (m : Nat) (w : World) (e : Ending) (w' : World) : Prop := ∃ s : ByteArray, e = .returned (.string s) ∧ isB s.data.toList = true ∧ s.size ≤ 4 * m ∧ Below w.heap.size w w'
theorem rightF_any (A : Option Addr) (n c m : Nat) (l : List UInt8) (w : World) (hs : Sits w w.heap.size A (Lib.byteCells l)) (hn : n = l.length) (hc : n ≤ c) (hm : n ≤ m) (hm2 : m ≤ 1000000) :
    Calls Try.prog 18 #[.slice A n c] w (FewRet m w) := by
  subst hn
  refine (rightR_any A c l w hs hc (by omega)).mono ?_
  rintro e w' ⟨rfl, hb⟩
  have h1 := right_len l
  exact ⟨_, rfl, isB_right l, by show (right l).toArray.size ≤ _; simp; omega, hb⟩

set_option maxHeartbeats 1000000 in
theorem few5_any (A : Option Addr) (n c : Nat) (l : List UInt8) (w : World) (hs : Sits w w.heap.size A (Lib.byteCells l)) (hn : n = l.length) (hc : n ≤ c) (hm : n ≤ maxLen) :
    Calls Try.prog 14 #[.slice A n c] w (FewRet 300 w) := by
  unfold maxLen at hm
  have ht : Lib.byteCells (l.take 300) = (Lib.byteCells l).take 300 := by unfold Lib.byteCells; rw [List.map_take]
  by_cases h : 300 < n
  · have HR := Lib.hid (rightF_any A 300 c 300 (l.take 300) w (by rw [ht]; exact hs.take 300) (by rw [List.length_take]; omega) (by omega) (Nat.le_refl _) (by omega))
    have s1 : ∀ W, (Instr.slice 36 (.slice A n c) none (some (.int .i64 300)) none).run Try.prog W = .ok (.slice A 300 c) W := fun W => cut_head W A n c 300 (by omega)
    clear hs hn
    go_enter Try.func14, Try.ntmps14
    go_wp2_with fail
    refine HR.out.mono ?_
    rintro e w1 ⟨s, rfl, h1, h2, h3⟩
    go_wp2_with fail
    go_ret
    exact ⟨s, rfl, h1, h2, h3⟩
  · have HR := Lib.hid (rightF_any A n c 300 l w hs hn hc (by omega) (by omega))
    clear hs hn
    go_enter Try.func14, Try.ntmps14
    go_wp2_with fail
    refine HR.out.mono ?_
    rintro e w1 ⟨s, rfl, h1, h2, h3⟩
    go_wp2_with fail
    go_ret
    exact ⟨s, rfl, h1, h2, h3⟩

/-! ### the document's example -/
def l5S : List UInt8 := [60, 65, 32, 98, 61, 49, 32, 67, 62, 120, 60, 47, 97, 32, 62]
theorem l5_toks : tokB l5S = [tkB [97] [(tB [98], tB [49]), (tB [99], tB [])], tkC [120], tkE [97]] := by
  have a1 : attOf (98 :: 61 :: 49 :: 32 :: 67 :: 62 :: [120, 60, 47, 97, 32, 62]) = some ((tB [98], tB [49]), 32 :: 67 :: 62 :: [120, 60, 47, 97, 32, 62]) := by
    rw [attOf_eq (show behind (98 :: 61 :: 49 :: 32 :: 67 :: 62 :: [120, 60, 47, 97, 32, 62]) = 61 :: 49 :: 32 :: 67 :: 62 :: [120, 60, 47, 97, 32, 62] from rfl)]
    rfl
  have a2 : attOf (67 :: 62 :: [120, 60, 47, 97, 32, 62]) = some ((tB [99], tB []), 62 :: [120, 60, 47, 97, 32, 62]) := by
    rw [attOf_other (show behind (67 :: 62 :: [120, 60, 47, 97, 32, 62]) = 62 :: [120, 60, 47, 97, 32, 62] from rfl) (by decide)]
    rfl
  have hat : attsOf [] ((65 :: 32 :: 98 :: 61 :: 49 :: 32 :: 67 :: 62 :: [120, 60, 47, 97, 32, 62]).dropWhile tagC) = some ([(tB [98], tB [49]), (tB [99], tB [])], [120, 60, 47, 97, 32, 62]) := by
    show attsOf [] (32 :: 98 :: 61 :: 49 :: 32 :: 67 :: 62 :: [120, 60, 47, 97, 32, 62]) = _
    rw [attsOf_skip [] _ (by decide) (by decide), attsOf_some [] (by decide) a1]
    show attsOf (addA [] (tB [98], tB [49])) (32 :: 67 :: 62 :: [120, 60, 47, 97, 32, 62]) = _
    rw [attsOf_skip _ _ (by decide) (by decide), attsOf_some _ (by decide) a2]
    show attsOf (addA (addA [] (tB [98], tB [49])) (tB [99], tB [])) (62 :: [120, 60, 47, 97, 32, 62]) = _
    have e1 : addA [] ((tB [98], tB [49]) : ByteArray × ByteArray) = [(tB [98], tB [49])] := addA_new (by intro x hx; cases hx)
    have e2 : addA [((tB [98], tB [49]) : ByteArray × ByteArray)] (tB [99], tB []) = [(tB [98], tB [49]), (tB [99], tB [])] := by
      refine addA_new ?_
      intro x hx
      simp only [List.mem_singleton] at hx
      subst hx
      intro e
      have := tB_inj e
      cases this
    rw [attsOf_end, e1, e2]
  have htg : tagB l5S = (some (tkB [97] [(tB [98], tB [49]), (tB [99], tB [])]), [120, 60, 47, 97, 32, 62]) := by
    unfold l5S
    rw [tagB_letter (by decide), hat]
    rfl
  have hraw : rawTk (tkB [97] [(tB [98], tB [49]), (tB [99], tB [])]) = false := by
    unfold rawTk tkB
    rw [tB_list]
    rfl
  rw [tokB_tag (k := tkB [97] [(tB [98], tB [49]), (tB [99], tB [])]) rfl (by rw [htg]) hraw, htg, tokB_chars (by rfl)]
  have h3 : tagB [60, 47, 97, 32, 62] = (some (tkE [97]), []) := rfl
  have h4 : tokB [60, 47, 97, 32, 62] = [tkE [97]] := by rw [tokB_tag (k := tkE [97]) rfl (by rw [h3]) rfl, h3, tokB_nil]
  show _ :: tkC (decB [120]) :: tokB [60, 47, 97, 32, 62] = _
  rw [h4]
  rfl

set_option maxHeartbeats 4000000 in
set_option maxRecDepth 100000 in
theorem lives5_any (HTS : ToksSaid) (w : World) (HGB : Glob w) : Calls Try.prog 13 #[] w fun e w' => e = .returned (.bool true) ∧ Below w.heap.size w w' := by
  have h0 := HTS ⟨#[60, 65, 32, 98, 61, 49, 32, 67, 62, 120, 60, 47, 97, 32, 62]⟩ w HGB (by rfl) (by decide)
  have H0 := Lib.hid h0
  clear h0
  go_enter Try.func13, Try.ntmps13
  go_wp2_with fail
  refine H0.out.mono ?_
  rintro e w1 ⟨v, rfl, hT, hb⟩
  have hT2 : TokAt (fun b => w.heap.size ≤ b ∧ b < w1.heap.size) w1 [tkB [97] [(tB [98], tB [49]), (tB [99], tB [])], tkC [120], tkE [97]] v := by
    have := l5_toks
    unfold l5S at this
    rw [← this]
    exact hT
  obtain ⟨b, o, c, rfl, hc, hSb, hcell⟩ := hT2.open_ (by decide)
  obtain ⟨va0, k0⟩ := hcell 0 _ rfl
  obtain ⟨va1, k1⟩ := hcell 1 _ rfl
  obtain ⟨va2, k2⟩ := hcell 2 _ rfl
  obtain ⟨d, m, cm, rfl, hcm, hSd, hatt⟩ := k0.at_.at_ (by decide)
  have p0 := hatt 0 _ rfl
  have p1 := hatt 1 _ rfl
  have c00 : w1.cell? ⟨b, o, none⟩ = some (.int .i64 1) := k0.c0
  have c01 : w1.cell? ⟨b, o + 1, none⟩ = some (.string ⟨#[97]⟩) := k0.c1
  have c02 : w1.cell? ⟨b, o + 2, none⟩ = some (.slice (some ⟨d, m, none⟩) 2 cm) := k0.c2
  have c13 : w1.cell? ⟨b, o + 4 + 3, none⟩ = some (.string ⟨#[120]⟩) := k1.c3
  have c20 : w1.cell? ⟨b, o + 8, none⟩ = some (.int .i64 2) := k2.c0
  have c21 : w1.cell? ⟨b, o + 8 + 1, none⟩ = some (.string ⟨#[97]⟩) := k2.c1
  have a00 : w1.cell? ⟨d, m, none⟩ = some (.string ⟨#[98]⟩) := p0.1
  have a01 : w1.cell? ⟨d, m + 1, none⟩ = some (.string ⟨#[49]⟩) := p0.2
  have a10 : w1.cell? ⟨d, m + 2, none⟩ = some (.string ⟨#[99]⟩) := p1.1
  have a11 : w1.cell? ⟨d, m + 2 + 1, none⟩ = some (.string ⟨#[]⟩) := p1.2
  clear hT hT2 hcell k0 k1 k2 hatt p0 p1
  go_wp2_with fail
  go_ret
  exact ⟨rfl, hb⟩

end Go.Proofs.Ytialfafjoemppaa

/- Part EscR. -/
namespace Go.Proofs.Ytialfafjoemppaa
open Go.RowKit
set_option linter.unusedVariables false

set_option maxHeartbeats 1000000 in
set_option maxRecDepth 100000 in
theorem escapeR_any (s : ByteArray) (v : Bool) (w : World) (hm : s.size ≤ 140000) :
    Calls Try.prog 37 #[.string s, .bool v] w fun e w' => e = .returned (.string ⟨(escB v s.data.toList).toArray⟩) ∧ w = w' := by
  obtain ⟨l, hl⟩ : ∃ l, s.data.toList = l := ⟨_, rfl⟩
  have hsz : s.size = l.length := by rw [← hl]; simp
  have HSL := Lib.hid hl
  have HSZ := Lib.hid hsz
  have hll : l.length ≤ 140000 := by omega
  have hat : ∀ k, (h : k < s.size) → l[k]? = some s[k] := by
    intro k h
    rw [← hl, List.getElem?_eq_getElem (by simpa using h)]
    rw [at_data s k h]
  have HAT := Lib.hid hat
  rw [hl]
  clear hl hsz hat
  go_enter Try.func37, Try.ntmps37
  go_wp2_with fail
  go_loop [5, 6] (fun x y => ∃ (o : ByteArray) (k : Nat), x = .string o ∧ y = .int .i64 k ∧ k ≤ l.length ∧ Hid (o.data.toList = escB v (l.take k)) ∧ o.size ≤ 6 * k) (fun _ y => s.size - (intOf y).toNat)
  case atStart => exact ⟨⟨#[]⟩, 0, rfl, rfl, by omega, Lib.hid rfl, Nat.le_refl _⟩
  case round =>
    obtain ⟨o, k, rfl, rfl, hk, HO, ho⟩ := hrel
    by_cases hlt : k < s.size
    · have hgk := HAT.out k hlt
      obtain ⟨c, hc⟩ : ∃ c, s[k] = c := ⟨_, rfl⟩
      rw [hc] at hgk
      have HG := Lib.hid hgk
      have ht := take_snoc' hgk
      have HTk := Lib.hid ht
      clear hgk ht
      have hstep : ∀ x : List UInt8, wrC v c = x → ∀ o' : ByteArray, o'.data.toList = o.data.toList ++ x → o'.data.toList = escB v (l.take (k + 1)) := by
        intro x hx o' ho'
        rw [HTk.out, escB_append, ← HO.out, ho', escB_cons, escB_nil, hx, List.append_nil]
      have HST := Lib.hid hstep
      clear hstep
      have hz : o.size ≤ 1000000 := by omega
      have hfin : ∀ x : List UInt8, x.length ≤ 6 → wrC v c = x → ∀ q : ByteArray, q.data.toList = x → ∃ (o' : ByteArray) (k' : Nat), Value.string (o ++ q) = .string o' ∧ Value.int .i64 ((k : Int) + 1) = .int .i64 k' ∧ k' ≤ l.length ∧ Hid (o'.data.toList = escB v (l.take k')) ∧ o'.size ≤ 6 * k' := by
        intro x hx6 hx q hq
        refine ⟨o ++ q, k + 1, rfl, by go_num, by have := HSZ.out; omega, Lib.hid (HST.out x hx _ (by rw [ByteArray.data_append, Array.toList_append, hq])), ?_⟩
        rw [ByteArray.size_append, str_list q, hq]
        omega
      have HFN := Lib.hid hfin
      clear hfin
      have hmid : ∀ x : UInt8, s[k] = x → (s.extract k (k + 1)).data.toList = [x] := by
        intro x hx
        have hg := HG.out
        rw [mid_extract, HSL.out, show k + 1 - k = 1 by omega]
        have := List.drop_eq_getElem_cons (l := l) (i := k) (by have := HSZ.out; omega)
        rw [this]
        rw [List.getElem?_eq_getElem (by have := HSZ.out; omega)] at hg
        injection hg with hg
        rw [hg, ← hc, hx]
        rfl
      have HMD := Lib.hid (hmid c hc)
      have hez : (s.extract k (k + 1)).size ≤ 1 := by rw [ByteArray.size_extract]; omega
      clear hmid
      by_cases a : c = 38
      · subst a
        have A : ((s[k].toNat : Int) == 38) = true := by rw [hc]; rfl
        have HW := Lib.hid (show wrC v 38 = [38, 97, 109, 112, 59] from rfl)
        clear hc
        go_wp2_with fail
        go_round
        case rel => exact HFN.out _ (by simp) HW.out _ rfl
        case measure => simp [intOf]; omega
      have hn : ∀ n : Nat, n < 256 → c ≠ n.toUInt8 → ((s[k].toNat : Int) == (n : Int)) = false := by
        intro n h1 h2
        rw [hc, beq_eq_false_iff_ne]
        intro e
        apply h2
        apply UInt8.toNat_inj.1
        simp
        omega
      have A : ((s[k].toNat : Int) == 38) = false := hn 38 (by omega) a
      by_cases b : c = 60
      · subst b
        have B : ((s[k].toNat : Int) == 60) = true := by rw [hc]; rfl
        have HW := Lib.hid (show wrC v 60 = [38, 108, 116, 59] from rfl)
        clear hc a hn
        go_wp2_with fail
        go_round
        case rel => exact HFN.out _ (by simp) HW.out _ rfl
        case measure => simp [intOf]; omega
      have B : ((s[k].toNat : Int) == 60) = false := hn 60 (by omega) b
      by_cases d : c = 62
      · subst d
        have C : ((s[k].toNat : Int) == 62) = true := by rw [hc]; rfl
        have HW := Lib.hid (show wrC v 62 = [38, 103, 116, 59] from rfl)
        clear hc a b hn
        go_wp2_with fail
        go_round
        case rel => exact HFN.out _ (by simp) HW.out _ rfl
        case measure => simp [intOf]; omega
      have C : ((s[k].toNat : Int) == 62) = false := hn 62 (by omega) d
      have hk1 : (k : Int) + 1 ≤ (s.size : Int) := by omega
      by_cases e : c = 34
      · subst e
        have D : ((s[k].toNat : Int) == 34) = true := by rw [hc]; rfl
        cases v with
        | true =>
          have HW := Lib.hid (show wrC true 34 = [38, 113, 117, 111, 116, 59] from rfl)
          clear hc a b d hn
          go_wp2_with fail
          go_round
          case rel => exact HFN.out _ (by simp) HW.out _ rfl
          case measure => simp [intOf]; omega
        | false =>
          have HW := Lib.hid (show wrC false 34 = [34] from rfl)
          clear hc a b d hn
          go_wp2_with fail
          go_round
          case rel => exact HFN.out _ (by simp) HW.out _ HMD.out
          case measure => simp [intOf]; omega
      have D : ((s[k].toNat : Int) == 34) = false := hn 34 (by omega) e
      have HW := Lib.hid (show wrC v c = [c] by apply wrC_same; unfold wrB; rw [if_neg a, if_neg b, if_neg d, if_neg (fun h => e h.1)])
      clear hc a b d e hn
      go_wp2_with fail
      go_round
      case rel => exact HFN.out _ (by simp) HW.out _ HMD.out
      case measure => simp [intOf]; omega
    · have hF : (⟨(escB v l).toArray⟩ : ByteArray) = o := by
        have := HO.out
        rw [List.take_of_length_le (by have := HSZ.out; omega)] at this
        rw [← this]
      have HF := Lib.hid hF
      clear hF
      go_wp2_with fail
      go_ret
      rw [HF.out]
      exact ⟨rfl, rfl⟩

end Go.Proofs.Ytialfafjoemppaa
