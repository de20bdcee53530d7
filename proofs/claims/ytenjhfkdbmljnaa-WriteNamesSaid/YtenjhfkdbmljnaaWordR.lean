/- strainerref03.word, attribute: their walks. -/
import Derived.Test.YtenjhfkdbmljnaaNamA
namespace Go.Proofs.Ytenjhfkdbmljnaa
open Go.RowKit
set_option linter.unusedVariables false

theorem below_newN (w : World) (o : Obj) : Below w.heap.size w (w.alloc o) := (Below.refl _ _).alloc (Nat.le_refl _) _

/-- A text that is a name, as long as another one or six bytes. -/
def SomeName (P : List UInt8 → Bool) (n : Nat) (w : World) (e : Ending) (w' : World) : Prop := ∃ t : ByteArray, e = .returned (.string t) ∧ P t.data.toList = true ∧ t.size ≤ n + 7 ∧ Below w.heap.size w w'

theorem word_cell (w : World) (t : TypeId) (m : Nat) (h : m < 10) :
    ∃ x : ByteArray, (w.alloc (.cells #[.string ⟨#[97]⟩, .string ⟨#[98]⟩, .string ⟨#[112]⟩, .string ⟨#[117, 108]⟩, .string ⟨#[108, 105]⟩, .string ⟨#[98, 114]⟩, .string ⟨#[105, 109, 103]⟩, .string ⟨#[100, 105, 118]⟩, .string ⟨#[115, 99, 114, 105, 112, 116]⟩, .string ⟨#[120, 45, 121]⟩] t)).cell? ⟨w.heap.size, m, none⟩ = some (.string x) ∧ namedB x.data.toList = true ∧ x.size ≤ 7 := by
  have : m = 0 ∨ m = 1 ∨ m = 2 ∨ m = 3 ∨ m = 4 ∨ m = 5 ∨ m = 6 ∨ m = 7 ∨ m = 8 ∨ m = 9 := by omega
  rcases this with rfl | rfl | rfl | rfl | rfl | rfl | rfl | rfl | rfl | rfl
  all_goals exact ⟨_, by simp; rfl, by decide, by decide⟩

set_option maxHeartbeats 2000000 in
theorem word_any (s : ByteArray) (w : World) (hm : s.size ≤ 100000) :
    Calls Try.prog 32 #[.string s] w (SomeName namedB s.size w) := by
  have hn := fun w => namedR_any s w hm
  obtain ⟨q, hq⟩ : ∃ q, namedB s.data.toList = q := ⟨_, rfl⟩
  rw [hq] at hn
  have HN := Lib.hid hn
  have HQ := Lib.hid hq
  clear hn hq
  go_enter Try.func32, Try.ntmps32
  go_wp2_with fail
  go_loop [4, 5] (fun x y => ∃ (n k : Nat), x = .int .i64 n ∧ y = .int .i64 k ∧ k ≤ s.size ∧ n ≤ 255 * k) (fun _ y => s.size - (intOf y).toNat)
  case atStart => exact ⟨0, 0, rfl, rfl, by omega, by omega⟩
  case round =>
    obtain ⟨n, k, rfl, rfl, hk, hn⟩ := hrel
    by_cases hlt : k < s.size
    · have hb := s[k].toNat_lt
      have hb' : (s[k].toNat : Int) ≤ 255 := by omega
      have hn' : (n : Int) ≤ 25500000 := by omega
      clear hb
      go_wp2_with fail
      go_round
      case rel => exact ⟨n + s[k].toNat, k + 1, by go_num, by go_num, by omega, by have := s[k].toNat_lt; omega⟩
      case measure => simp [intOf]; omega
    · have hn' : (n : Int) ≤ 25500000 := by omega
      obtain ⟨t, ht, htn, htz⟩ := word_cell w 9 (n % 10) (by omega)
      have HTN := Lib.hid htn
      clear htn
      cases q with
      | true =>
        clear ht
        go_wp2_with fail
        refine (HN.out _).mono ?_
        rintro e w1 ⟨rfl, rfl⟩
        go_wp2_with fail
        go_ret
        exact ⟨s, rfl, HQ.out, by omega, below_newN _ _⟩
      | false =>
        go_wp2_with fail
        refine (HN.out _).mono ?_
        rintro e w1 ⟨rfl, rfl⟩
        go_wp2_with fail
        go_ret
        exact ⟨t, rfl, HTN.out, by omega, below_newN _ _⟩

theorem attr_cell (w : World) (t : TypeId) (m : Nat) (h : m < 5) :
    ∃ x : ByteArray, (w.alloc (.cells #[.string ⟨#[105, 100]⟩, .string ⟨#[104, 114, 101, 102]⟩, .string ⟨#[116, 105, 116, 108, 101]⟩, .string ⟨#[100, 97, 116, 97, 45, 97]⟩, .string ⟨#[111, 110, 99, 108, 105, 99, 107]⟩] t)).cell? ⟨w.heap.size, m, none⟩ = some (.string x) ∧ attrB x.data.toList = true ∧ x.size ≤ 7 := by
  have : m = 0 ∨ m = 1 ∨ m = 2 ∨ m = 3 ∨ m = 4 := by omega
  rcases this with rfl | rfl | rfl | rfl | rfl
  all_goals exact ⟨_, by simp; rfl, by decide +kernel, by decide⟩

set_option maxHeartbeats 2000000 in
theorem attribute_any (s : ByteArray) (w : World) (hm : s.size ≤ 100000) :
    Calls Try.prog 33 #[.string s] w (SomeName attrB s.size w) := by
  have hn := attrR_any s w hm
  obtain ⟨q, hq⟩ : ∃ q, attrB s.data.toList = q := ⟨_, rfl⟩
  rw [hq] at hn
  have HN := Lib.hid hn
  have HQ := Lib.hid hq
  clear hn hq
  go_enter Try.func33, Try.ntmps33
  go_wp2_with fail
  refine HN.out.mono ?_
  rintro e w1 ⟨rfl, hb1⟩
  obtain ⟨t, ht, htn, htz⟩ := attr_cell w1 9 (s.size % 5) (by omega)
  have HTN := Lib.hid htn
  clear htn
  cases q with
  | true =>
    clear ht
    go_wp2_with fail
    go_ret
    exact ⟨s, rfl, HQ.out, by omega, hb1⟩
  | false =>
    go_wp2_with fail
    go_ret
    exact ⟨t, rfl, HTN.out, by omega, below_after hb1 (below_newN _ _)⟩

/-- What is told of an attribute's name: it may be one; one that may be stays. -/
def AttN (s t : ByteArray) : Prop := attrB t.data.toList = true ∧ (attrB s.data.toList = true → t = s)
def SomeAtt (s : ByteArray) (w : World) (e : Ending) (w' : World) : Prop := ∃ t : ByteArray, e = .returned (.string t) ∧ AttN s t ∧ t.size ≤ s.size + 7 ∧ Below w.heap.size w w'
theorem attribute_eq (s : ByteArray) (w : World) (hm : s.size ≤ 100000) :
    Calls Try.prog 33 #[.string s] w (SomeAtt s w) := by
  have hn := attrR_any s w hm
  obtain ⟨q, hq⟩ : ∃ q, attrB s.data.toList = q := ⟨_, rfl⟩
  rw [hq] at hn
  have HN := Lib.hid hn
  have HQ := Lib.hid hq
  clear hn hq
  go_enter Try.func33, Try.ntmps33
  go_wp2_with fail
  refine HN.out.mono ?_
  rintro e w1 ⟨rfl, hb1⟩
  obtain ⟨t, ht, htn, htz⟩ := attr_cell w1 9 (s.size % 5) (by omega)
  have HTN := Lib.hid htn
  clear htn
  cases q with
  | true =>
    clear ht
    go_wp2_with fail
    go_ret
    exact ⟨s, rfl, ⟨HQ.out, fun _ => rfl⟩, by omega, hb1⟩
  | false =>
    go_wp2_with fail
    go_ret
    exact ⟨t, rfl, ⟨HTN.out, fun h => by rw [HQ.out] at h; cases h⟩, by omega, below_after hb1 (below_newN _ _)⟩

set_option maxHeartbeats 2000000 in
/-- A name that is one stays. -/
theorem word_is (s : ByteArray) (w : World) (hm : s.size ≤ 100000) (hq : namedB s.data.toList = true) :
    Calls Try.prog 32 #[.string s] w fun e w' => e = .returned (.string s) ∧ Below w.heap.size w w' := by
  have hn := fun w => namedR_any s w hm
  rw [hq] at hn
  have HN := Lib.hid hn
  clear hn hq
  go_enter Try.func32, Try.ntmps32
  go_wp2_with fail
  go_loop [4, 5] (fun x y => ∃ (n k : Nat), x = .int .i64 n ∧ y = .int .i64 k ∧ k ≤ s.size ∧ n ≤ 255 * k) (fun _ y => s.size - (intOf y).toNat)
  case atStart => exact ⟨0, 0, rfl, rfl, by omega, by omega⟩
  case round =>
    obtain ⟨n, k, rfl, rfl, hk, hn⟩ := hrel
    by_cases hlt : k < s.size
    · have hb := s[k].toNat_lt
      have hb' : (s[k].toNat : Int) ≤ 255 := by omega
      have hn' : (n : Int) ≤ 25500000 := by omega
      clear hb
      go_wp2_with fail
      go_round
      case rel => exact ⟨n + s[k].toNat, k + 1, by go_num, by go_num, by omega, by have := s[k].toNat_lt; omega⟩
      case measure => simp [intOf]; omega
    · have hn' : (n : Int) ≤ 25500000 := by omega
      go_wp2_with fail
      refine (HN.out _).mono ?_
      rintro e w1 ⟨rfl, rfl⟩
      go_wp2_with fail
      go_ret
      exact ⟨rfl, below_newN _ _⟩

theorem word_eq (s : ByteArray) (w : World) (hm : s.size ≤ 100000) :
    Calls Try.prog 32 #[.string s] w fun e w' => ∃ t : ByteArray, e = .returned (.string t) ∧ namedB t.data.toList = true ∧ t.size ≤ s.size + 7 ∧ Below w.heap.size w w' ∧ (namedB s.data.toList = true → t = s) := by
  by_cases hq : namedB s.data.toList = true
  · refine (word_is s w hm hq).mono ?_
    rintro e w' ⟨rfl, hb⟩
    exact ⟨s, rfl, hq, by omega, hb, fun _ => rfl⟩
  · refine (word_any s w hm).mono ?_
    rintro e w' ⟨t, rfl, h1, h2, hb⟩
    exact ⟨t, rfl, h1, h2, hb, fun h => absurd h hq⟩

end Go.Proofs.Ytenjhfkdbmljnaa
