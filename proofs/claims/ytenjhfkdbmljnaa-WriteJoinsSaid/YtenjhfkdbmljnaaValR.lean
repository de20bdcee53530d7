/- strainerref03.Value: its walk. -/
import Derived.Test.YtenjhfkdbmljnaaTreeA
import Derived.Test.YtenjhfkdbmljnaaNamR
namespace Go.Proofs.Ytenjhfkdbmljnaa
open Go.RowKit
set_option linter.unusedVariables false

/-- The value of the first attribute of a name. -/
def valA : List (ByteArray × ByteArray) → ByteArray → Option ByteArray
  | [], _ => none
  | a :: l, x => if a.1 = x then some a.2 else valA l x
theorem valA_none {l : List (ByteArray × ByteArray)} {x : ByteArray} : valA l x = none ↔ ∀ a ∈ l, a.1 ≠ x := by
  induction l with
  | nil => simp [valA]
  | cons a l ih =>
    unfold valA
    by_cases h : a.1 = x
    · simp [h]
    · simp [h, ih]
theorem valA_at {l : List (ByteArray × ByteArray)} {x : ByteArray} {k : Nat} {a : ByteArray × ByteArray} (h : ∀ b ∈ l.take k, b.1 ≠ x) (hk : l[k]? = some a) (ha : a.1 = x) : valA l x = some a.2 := by
  induction l generalizing k with
  | nil => simp at hk
  | cons b l ih =>
    cases k with
    | zero =>
      simp at hk
      subst hk
      unfold valA
      rw [if_pos ha]
    | succ k =>
      have hb := h b (by simp)
      unfold valA
      rw [if_neg hb]
      exact ih (k := k) (fun y hy => h y (by simp [hy])) (by simpa using hk)

theorem str_eq (a b : ByteArray) : (a.toList == b.toList) = decide (a = b) := by
  rw [eq_two]
  congr 1
  rw [eq_iff_iff]
  constructor
  · intro h
    apply ByteArray.ext
    exact Array.toList_inj.1 h
  · intro h
    rw [h]

structure ValAt (w wr : World) (l : List (ByteArray × ByteArray)) (x : ByteArray) (k : Nat) : Prop where
  le : k ≤ l.length
  is : ∀ b ∈ l.take k, b.1 ≠ x
  bel : Below w.heap.size w wr
  slot : True
def ValRel (w : World) (W : World) (l : List (ByteArray × ByteArray)) (x : ByteArray) (y : Value) (wr : World) : Prop := ∃ k : Nat, y = .int .i64 k ∧ ValAt w wr l x k ∧ wr = W

theorem ret_sb {a a' : ByteArray} {b b' : Bool} (h : a = a') (h' : b = b') : Ending.returned (.tuple #[.string a, .bool b]) = .returned (.tuple #[.string a', .bool b']) := by rw [h, h']

set_option maxHeartbeats 2000000 in
theorem valueR_any (S : Nat → Prop) (kind : Int) (nm tx : ByteArray) (l : List (ByteArray × ByteArray)) (va vk : Value) (x : ByteArray) (w : World) (hat : AttrsAt S w l va) (hS : ∀ b, S b → b < w.heap.size) (hsz : szA l ≤ 1000000) :
    Calls Try.prog 34 #[.agg #[.int .i64 kind, .string nm, va, .string tx, vk], .string x] w fun e w' =>
      e = .returned (.tuple #[.string ((valA l x).getD ⟨#[]⟩), .bool (valA l x).isSome]) ∧ Below w.heap.size w w' := by
  have hln := szA_len l
  have hat0 := hat
  obtain ⟨A, c, rfl, hc, _⟩ := hat
  have HAT := Lib.hid hat0
  clear hat0
  go_enter Try.func34, Try.ntmps34
  go_wp2_with fail
  go_loop [6] (fun y => ∃ k : Nat, y = .int .i64 k ∧ k ≤ l.length ∧ Hid (∀ b ∈ l.take k, b.1 ≠ x)) (fun y => l.length - (intOf y).toNat)
  case atStart => exact ⟨0, rfl, by omega, Lib.hid (by simp)⟩
  case round =>
    obtain ⟨k, rfl, hk, HA⟩ := hrel
    by_cases hlt : k < l.length
    · obtain ⟨b, o, c', hv, _, hSb, hcell⟩ := HAT.out.at_ (by omega)
      injection hv with hA _ hcc
      subst hA
      subst hcc
      obtain ⟨a, ha⟩ : ∃ a, l[k]? = some a := ⟨_, List.getElem?_eq_getElem hlt⟩
      have hbw := hS b hSb
      obtain ⟨q0, q1⟩ := hcell k a ha
      have HK := Lib.hid ha
      have hne : b ≠ w.heap.size := by omega
      by_cases hx : a.1 = x
      · have he : (a.1.toList == x.toList) = true := by rw [str_eq]; simp [hx]
        have HF := Lib.hid (valA_at HA.out ha hx)
        clear hcell ha hx
        go_wp2_with fail
        go_ret2
        exact ⟨by rw [HF.out]; rfl, below_new _ _⟩
      · have he : (a.1.toList == x.toList) = false := by rw [str_eq]; simp [hx]
        have HN := Lib.hid (show ∀ b ∈ l.take (k + 1), b.1 ≠ x by
          intro y hy
          rw [List.take_add_one, ha] at hy
          rcases List.mem_append.1 hy with hy | hy
          · exact HA.out y hy
          · simp at hy
            subst hy
            exact hx)
        clear hcell ha hx
        go_wp2_with fail
        go_round
        case rel => exact ⟨k + 1, by go_num, by omega, HN⟩
        case measure => simp [intOf]; omega
    · have HF := Lib.hid (show valA l x = none by
        have := HA.out
        rw [List.take_of_length_le (by omega)] at this
        exact valA_none.2 this)
      go_wp2_with fail
      go_ret2
      exact ⟨by rw [HF.out]; rfl, below_new _ _⟩

end Go.Proofs.Ytenjhfkdbmljnaa
