/- strainerlaw02.RefsNumbers: its walk. -/
import Derived.Test.YtillpoaobcdlmaaRLawD
namespace Go.Proofs.Ytillpoaobcdlmaa
open Go.RowKit
set_option linter.unusedVariables false

theorem valB_cons (b a : Int) (c : UInt8) (t : List UInt8) : valB b a (c :: t) = valB b (a * b + digR c.toNat) t := rfl

/-- The last digit of a number, in tens. -/
def tenC (K : Nat) : UInt8 := (48 + K % 10).toUInt8
theorem tenC_nat (K : Nat) : (tenC K).toNat = 48 + K % 10 := by
  unfold tenC
  simp
  omega
theorem tenC_dig (K : Nat) : digR (tenC K).toNat = K % 10 := by
  rw [tenC_nat]
  unfold digR
  rw [if_pos (by omega)]
  omega
/-- .. in sixteens. -/
def hexC (d : Nat) : UInt8 := [48, 49, 50, 51, 52, 53, 54, 55, 56, 57, 97, 98, 99, 100, 101, 102].getD d 0
theorem hexC_all : ∀ d, d < 16 → digR (hexC d).toNat = d ∧ ((⟨#[48, 49, 50, 51, 52, 53, 54, 55, 56, 57, 97, 98, 99, 100, 101, 102]⟩ : ByteArray).extract d (d + 1)).data.toList = [hexC d] := by decide

structure Digs (b : Int) (n m K : Nat) (T : ByteArray) : Prop where
  dg : ∀ c ∈ T.data.toList, 0 ≤ digR c.toNat ∧ digR c.toNat < b
  vl : valB b K T.data.toList = n
  sz : T.size ≤ m
  hi : (K : Int) < b ^ (m - T.size)

theorem Digs.start {b : Int} {n m : Nat} (h : (n : Int) < b ^ m) : Digs b n m n ⟨#[]⟩ := ⟨by simp, rfl, Nat.zero_le _, h⟩

theorem Digs.step {B : Int} {n m K : Nat} {T T' : ByteArray} {c : UInt8} (h : Digs B n m K T) (b : Nat) (hB : B = (b : Int)) (hb : 2 ≤ b) (hK : 0 < K) (hc : digR c.toNat = (K % b : Nat)) (hT : T'.data.toList = c :: T.data.toList) : Digs B n m (K / b) T' := by
  subst hB
  have hz : T'.size = T.size + 1 := by rw [str_list, hT, str_list]; simp
  have hlt : K % b < b := Nat.mod_lt _ (by omega)
  have hsz : T.size < m := by
    rcases Nat.lt_or_ge T.size m with h1 | h1
    · exact h1
    · have := h.hi
      rw [show m - T.size = 0 by omega] at this
      simp at this
      omega
  refine ⟨?_, ?_, by omega, ?_⟩
  · intro x hx
    rw [hT] at hx
    rcases List.mem_cons.1 hx with rfl | hx
    · rw [hc]; omega
    · exact h.dg x hx
  · rw [hT, valB_cons, hc, ← h.vl]
    congr 1
    have := Nat.div_add_mod' K b
    omega
  · have h1 := h.hi
    rw [hz]
    rw [show m - T.size = (m - (T.size + 1)) + 1 by omega, Int.pow_succ] at h1
    have h2 : (K / b * b : Nat) ≤ K := Nat.div_mul_le_self K b
    have h3 : ((K / b : Nat) : Int) * b < b ^ (m - (T.size + 1)) * b := by
      rw [← Int.natCast_mul]
      omega
    exact Int.lt_of_mul_lt_mul_right h3 (by omega)

theorem Digs.ne {b : Int} {n m : Nat} {T : ByteArray} (h : Digs b n m 0 T) (hn : 0 < n) : T.data.toList ≠ [] := by
  intro e
  have := h.vl
  rw [e] at this
  have h0 : valB b ((0 : Nat) : Int) [] = 0 := rfl
  rw [h0] at this
  omega

theorem tmod_neg {x : Int} {n : Nat} (h0 : x < 0) (h : (n : Int) = (-(x + 1)) % 1114112) : (x + 1).tmod 1114112 = -(n : Int) := by
  have e : (-(x + 1)).tmod 1114112 = (-(x + 1)) % 1114112 := Int.tmod_eq_emod_of_nonneg (by omega)
  rw [Int.neg_tmod, ← h] at e
  omega

set_option maxHeartbeats 4000000 in
set_option maxRecDepth 100000 in
theorem refsNumbers_odd (x : Int) (n : Nat) (w : World) (hx : -9223372036854775808 ≤ x ∧ x ≤ 9223372036854775807) (hn : (x < 0 ∧ (n : Int) = (-(x + 1)) % 1114112) ∨ (0 ≤ x ∧ (n : Int) = x % 1114112))
    (ho : n = 0 ∨ n = 13 ∨ (55296 ≤ n ∧ n ≤ 57343)) :
    Calls Try.prog 7 #[.int .i64 x] w fun e w' => e = .returned (.bool true) ∧ Below w.heap.size w w' := by
  rcases hn with ⟨h0, hn⟩ | ⟨h0, hn⟩
  case' inl => have hr := tmod_neg h0 hn
  case' inr => have hr := hn.symm
  all_goals
    clear hn
    obtain ⟨hx1, hx2⟩ := hx
    rcases ho with rfl | rfl | ⟨ho1, ho2⟩
    case' inr.inr =>
      have B0 : ((n : Int) == 0) = false := by simp; omega
      have B13 : ((n : Int) == 13) = false := by simp; omega
      have ho1' : 55296 ≤ (n : Int) := by omega
      have ho2' : (n : Int) ≤ 57343 := by omega
    all_goals
      go_enter Try.func7, Try.ntmps7
      go_wp2_with fail
      refine (lives2_any _).mono ?_
      rintro e w3 ⟨rfl, hb3⟩
      go_wp2_with fail
      go_ret
      exact ⟨rfl, hb3⟩

theorem nat_int {N : Int} (h : 0 ≤ N) : Value.int .i64 N = .int .i64 (N.toNat : Int) := by rw [Int.toNat_of_nonneg h]

theorem conv_one (wr : World) (K : Nat) :
    (convert 26 9 (.slice (some ⟨wr.heap.size, 0, none⟩) 1 1)).run Try.prog (wr.alloc (.cells #[.int .u8 (48 + (K : Int) % 10)] 5)) = .ok (.string ⟨#[tenC K]⟩) (wr.alloc (.cells #[.int .u8 (48 + (K : Int) % 10)] 5)) := by
  have hu : ((tenC K).toNat : Int) = 48 + (K : Int) % 10 := by rw [tenC_nat]; omega
  have := convert_bytes (w := wr.alloc (.cells #[.int .u8 (48 + (K : Int) % 10)] 5)) (B := wr.heap.size + 1) (A := some ⟨wr.heap.size, 0, none⟩) (c := 1) (l := [tenC K]) (by
    intro _
    refine ⟨wr.heap.size, 0, rfl, by omega, fun j u hj => ?_⟩
    rw [Nat.zero_add]
    match j, hj with
    | 0, hj =>
      simp [Lib.byteCells] at hj
      subst hj
      rw [hu]
      simp)
  exact this

theorem tens_call (T : ByteArray) (n : Nat) (w : World) (hd : Digs 10 n 7 0 T) (hok : okN n) (hn : 0 < n) :
    Calls Try.prog 15 #[.string (⟨#[38, 35]⟩ ++ T ++ ⟨#[59, 120]⟩)] w fun e w' => e = .returned (.tuple #[.int .i32 n, .int .i64 ((T.size : Int) + 3)]) ∧ Below w.heap.size w w' := by
  have hz := hd.sz
  have hl : (⟨#[38, 35]⟩ ++ T ++ ⟨#[59, 120]⟩ : ByteArray).data.toList = 38 :: 35 :: (T.data.toList ++ [59, 120]) := by
    rw [ByteArray.data_append, Array.toList_append, ByteArray.data_append, Array.toList_append]
    rfl
  have h1 := one_tens (T := T.data.toList) (n := n) (fun c hc => by
    have := hd.dg c hc
    have hb := c.toNat_lt
    unfold digR at this
    repeat' split at this
    all_goals omega) (hd.ne hn) (by rw [← str_list]; exact hz) hd.vl hok
  refine (One_any _ w (by rw [ByteArray.size_append, ByteArray.size_append]; show 2 + T.size + 2 ≤ _; omega)).mono ?_
  rw [hl, h1]
  rintro e w1 ⟨rfl, hb⟩
  refine ⟨ret_pair rfl ?_, hb⟩
  rw [str_list]
  simp

theorem hex_call (T : ByteArray) (n : Nat) (w : World) (hd : Digs 16 n 6 0 T) (hok : okN n) (hn : 0 < n) :
    Calls Try.prog 15 #[.string (⟨#[38, 35, 120]⟩ ++ T ++ ⟨#[59, 120]⟩)] w fun e w' => e = .returned (.tuple #[.int .i32 n, .int .i64 ((T.size : Int) + 4)]) ∧ Below w.heap.size w w' := by
  have hz := hd.sz
  have hl : (⟨#[38, 35, 120]⟩ ++ T ++ ⟨#[59, 120]⟩ : ByteArray).data.toList = 38 :: 35 :: 120 :: (T.data.toList ++ [59, 120]) := by
    rw [ByteArray.data_append, Array.toList_append, ByteArray.data_append, Array.toList_append]
    rfl
  have h1 := one_sixteens (T := T.data.toList) (n := n) (fun c hc => (hd.dg c hc).1) (hd.ne hn) (by rw [← str_list]; exact hz) hd.vl hok
  refine (One_any _ w (by rw [ByteArray.size_append, ByteArray.size_append]; show 3 + T.size + 2 ≤ _; omega)).mono ?_
  rw [hl, h1]
  rintro e w1 ⟨rfl, hb⟩
  refine ⟨ret_pair rfl ?_, hb⟩
  rw [str_list]
  simp

set_option maxHeartbeats 4000000 in
set_option maxRecDepth 100000 in
theorem refsNumbers_fine (x : Int) (n : Nat) (w : World) (hx : -9223372036854775808 ≤ x ∧ x ≤ 9223372036854775807) (hn : (x < 0 ∧ (n : Int) = (-(x + 1)) % 1114112) ∨ (0 ≤ x ∧ (n : Int) = x % 1114112))
    (ho : ¬ (n = 0 ∨ n = 13 ∨ (55296 ≤ n ∧ n ≤ 57343))) :
    Calls Try.prog 7 #[.int .i64 x] w fun e w' => e = .returned (.bool true) ∧ Below w.heap.size w w' := by
  have hnb : n ≤ 1114111 := by omega
  have hr0 : (x + 1).tmod 1114112 = -(n : Int) ∧ x < 0 ∨ x % 1114112 = (n : Int) ∧ 0 ≤ x := by
    rcases hn with ⟨h0, hn⟩ | ⟨h0, hn⟩
    · exact .inl ⟨tmod_neg h0 hn, h0⟩
    · exact .inr ⟨hn.symm, h0⟩
  clear hn
  obtain ⟨N, hN⟩ : ∃ N : Int, (n : Int) = N := ⟨_, rfl⟩
  have hok : okN N := by unfold okN okR; omega
  have HOK := Lib.hid hok
  rw [hN] at hr0
  have B0 : (N == 0) = false := by simp; omega
  have B13 : (N == 13) = false := by simp; omega
  have hsp : N < 55296 ∨ (55296 ≤ N ∧ 57343 < N) := by omega
  have hN0 : 0 < N := by omega
  have hN1 : N ≤ 1114111 := by omega
  have hnt : n = N.toNat := by omega
  have p10 : (10 : Int) ^ 7 = 10000000 := by decide
  have p16 : (16 : Int) ^ 6 = 16777216 := by decide
  have HS0 := Lib.hid (Digs.start (b := 10) (n := n) (m := 7) (by rw [p10]; omega))
  have HS1 := Lib.hid (Digs.start (b := 16) (n := n) (m := 6) (by rw [p16]; omega))
  have HNN := Lib.hid hN
  have HNT := Lib.hid hnt
  clear p10 p16 hok ho hN hnt hnb
  obtain ⟨hx1, hx2⟩ := hx
  rcases hr0 with ⟨hr, h0⟩ | ⟨hr, h0⟩
  case' inr =>
    subst hr
    have hr : True := trivial
  all_goals
    rcases hsp with hs1 | ⟨hs1, hs2⟩
    all_goals
      go_enter Try.func7, Try.ntmps7
      go_wp2_with fail
      clear hr h0 hx1 hx2
      go_loopw [4, 5] (fun y z wr => ∃ (T : ByteArray) (K : Nat), y = .string T ∧ z = .int .i64 K ∧ Hid (Digs 10 n 7 K T) ∧ K ≤ n ∧ Below w.heap.size w wr) (fun _ z _ => (intOf z).toNat)
      case atStart => exact ⟨⟨#[]⟩, n, rfl, by rw [HNN.out], HS0, Nat.le_refl _, Below.refl _ _⟩
      case round =>
        obtain ⟨T, K, rfl, rfl, HD, hK, hbel⟩ := hrel
        have hTz := HD.out.sz
        by_cases hK0 : 0 < K
        · have hK1 : (0 : Int) < (K : Int) := by omega
          have hKb : (K : Int) ≤ 1114111 := by have := HNN.out; omega
          have kc := conv_one wr K
          have HST := Lib.hid (HD.out.step (T' := ⟨#[tenC K]⟩ ++ T) 10 rfl (by omega) hK0 (tenC_dig K) (by rw [ByteArray.data_append, Array.toList_append]; rfl))
          go_wp2_with fail
          go_roundw
          case rel => exact ⟨_, K / 10, rfl, by go_num, HST, by omega, hbel.alloc hbel.size _⟩
          case measure => simp [intOf]; omega
        · obtain rfl : K = 0 := by omega
          go_wp2_with fail
          obtain ⟨wo, rfl⟩ : ∃ wo : World, wo = wr := ⟨_, rfl⟩
          go_loopw [7, 8] (fun y z wr => ∃ (S : ByteArray) (K : Nat), y = .string S ∧ z = .int .i64 K ∧ Hid (Digs 16 n 6 K S) ∧ K ≤ n ∧ Below w.heap.size w wr) (fun _ z _ => (intOf z).toNat)
          case atStart => exact ⟨⟨#[]⟩, n, rfl, by rw [HNN.out], HS1, Nat.le_refl _, hbel⟩
          case round =>
            obtain ⟨S, K, rfl, rfl, HD2, hK2, hbel2⟩ := hrel
            have hSz := HD2.out.sz
            by_cases hK0 : 0 < K
            · have hK1 : (0 : Int) < (K : Int) := by omega
              have hKb : (K : Int) ≤ 1114111 := by have := HNN.out; omega
              have hx := hexC_all (K % 16) (by omega)
              have HST := Lib.hid (HD2.out.step (T' := (⟨#[48, 49, 50, 51, 52, 53, 54, 55, 56, 57, 97, 98, 99, 100, 101, 102]⟩ : ByteArray).extract (K % 16) (K % 16 + 1) ++ S) 16 rfl (by omega) hK0 hx.1 (by rw [ByteArray.data_append, Array.toList_append, hx.2]; rfl))
              have hez : ((⟨#[48, 49, 50, 51, 52, 53, 54, 55, 56, 57, 97, 98, 99, 100, 101, 102]⟩ : ByteArray).extract (K % 16) (K % 16 + 1)).size ≤ 1 := by rw [str_list, hx.2]; simp
              clear hx
              go_wp2_with fail
              go_roundw
              case rel => exact ⟨_, K / 16, rfl, by go_num, HST, by omega, hbel2⟩
              case measure => simp [intOf]; omega
            · obtain rfl : K = 0 := by omega
              go_wp2_with fail
              refine (tens_call T n _ HD.out (by rw [HNN.out]; exact HOK.out) (by have := HNN.out; omega)).mono ?_
              rw [HNN.out]
              rintro e w1 ⟨rfl, hb1⟩
              have hB1 := below_after hbel2 hb1
              go_wp2_with fail
              refine (hex_call S n _ HD2.out (by rw [HNN.out]; exact HOK.out) (by have := HNN.out; omega)).mono ?_
              rw [HNN.out]
              rintro e w2 ⟨rfl, hb2⟩
              have hB2 := below_after hB1 hb2
              clear hb1 hb2 hB1
              go_wp2_with fail
              refine (lives2_any _).mono ?_
              rintro e w3 ⟨rfl, hb3⟩
              have hB3 := below_after hB2 hb3
              go_wp2_with fail
              go_ret
              exact ⟨rfl, hB3⟩

theorem refsNumbers_end (x : Int) (w : World) (hx : -9223372036854775808 ≤ x ∧ x ≤ 9223372036854775807) :
    Calls Try.prog 7 #[.int .i64 x] w fun e w' => e = .returned (.bool true) ∧ Below w.heap.size w w' := by
  obtain ⟨n, hn⟩ : ∃ n : Nat, (x < 0 ∧ (n : Int) = (-(x + 1)) % 1114112) ∨ (0 ≤ x ∧ (n : Int) = x % 1114112) := by
    by_cases h : x < 0
    · exact ⟨((-(x + 1)) % 1114112).toNat, .inl ⟨h, by omega⟩⟩
    · exact ⟨(x % 1114112).toNat, .inr ⟨by omega, by omega⟩⟩
  by_cases ho : n = 0 ∨ n = 13 ∨ (55296 ≤ n ∧ n ≤ 57343)
  · exact refsNumbers_odd x n w hx hn ho
  · exact refsNumbers_fine x n w hx hn ho

end Go.Proofs.Ytillpoaobcdlmaa
