/- Parts of the proof, in build order: Mem MathU RefM Map MemB MemC. -/
import Derived.Test.YtfdgmoakobjohaaRows
import Derived.WalkKit
import Derived.WalkSpells
import Derived.WalkLawsBesides
import Derived.Lib.Hide
import Derived.Deep.QuietTactic
import Derived.BigQuiet
import Derived.Lib.UnsafeStr
import Derived.Lib.RuneBytes
import Derived.Lib.RuneCount
import Derived.Lib.Strings
import Derived.Maps.Own
import Derived.Maps.OwnOps
import Derived.Maps.OwnSet
import Derived.Maps.Views
import Derived.StringKeys
import Derived.Laws.IdiomStrings

/- Part Mem. -/
namespace Go.Proofs.Ytfdgmoakobjohaa
open Go.RowKit
set_option linter.unusedVariables false

theorem ret_int {k : IntKind} {a b : Int} (h : a = b) : Ending.returned (.int k a) = .returned (.int k b) := by rw [h]

/-- The slice with address A holds the cells xs; they lie below block B. -/
def Sits (w : World) (B : Nat) (A : Option Addr) (xs : List Value) : Prop :=
  0 < xs.length → ∃ b o, A = some ⟨b, o, none⟩ ∧ b < B ∧ ∀ j u, xs[j]? = some u → w.cell? ⟨b, o + j, none⟩ = some u

theorem Sits.nil (w : World) (B : Nat) (A : Option Addr) : Sits w B A [] := fun h => absurd h (by simp)

theorem Sits.open_ {w : World} {B : Nat} {A : Option Addr} {xs : List Value} (h : Sits w B A xs) (hx : 0 < xs.length) :
    ∃ b o, A = some ⟨b, o, none⟩ ∧ b < B ∧ ∀ j u, xs[j]? = some u → w.cell? ⟨b, o + j, none⟩ = some u := h hx

theorem Sits.keep {w w' : World} {B : Nat} {A : Option Addr} {xs : List Value} (h : Sits w B A xs) (hk : ∀ b j, b < B → w'.cell? ⟨b, j, none⟩ = w.cell? ⟨b, j, none⟩) : Sits w' B A xs := by
  intro hx
  obtain ⟨b, o, hA, hb, hc⟩ := h hx
  exact ⟨b, o, hA, hb, fun j u hu => (hk b _ hb).trans (hc j u hu)⟩

theorem Sits.below {w w' : World} {B : Nat} {A : Option Addr} {xs : List Value} (h : Sits w B A xs) (hb : Below B w w') : Sits w' B A xs :=
  h.keep fun b j hbB => hb.cell (p := ⟨b, j, none⟩) hbB

theorem Sits.more {w : World} {B B' : Nat} {A : Option Addr} {xs : List Value} (h : Sits w B A xs) (hB : B ≤ B') : Sits w B' A xs := by
  intro hx
  obtain ⟨b, o, hA, hb, hc⟩ := h hx
  exact ⟨b, o, hA, by omega, hc⟩

theorem Sits.take {w : World} {B : Nat} {A : Option Addr} {xs : List Value} (h : Sits w B A xs) (n : Nat) : Sits w B A (xs.take n) := by
  intro hx
  obtain ⟨b, o, hA, hb, hc⟩ := h (by rw [List.length_take] at hx; omega)
  refine ⟨b, o, hA, hb, fun j u hu => hc j u ?_⟩
  rw [List.getElem?_take] at hu
  split at hu
  · exact hu
  · cases hu

/-- What the call owns can be read. -/
theorem Sits.own {w : World} {base : Nat} {e : TypeId} {A : Option Addr} {n c : Nat} {xs : List Value} (h : w.ownsRow base e 1 (.slice A n c) n xs) : Sits w w.heap.size A xs := by
  intro hx
  have hn : 0 < n := by have := h.1; omega
  rcases h.2 with ⟨_, h0⟩ | ⟨g, cap, cur, hv, hg, hh, _⟩
  · omega
  · have hA : A = some ⟨g, 0, none⟩ := by injection hv
    have hc : c = cap := by injection hv
    subst hA
    subst hc
    refine ⟨g, 0, rfl, (Array.getElem?_eq_some_iff.1 hh).1, fun j u hu => ?_⟩
    have hj : j < n := by
      have h1 := (List.getElem?_eq_some_iff.1 hu).1
      have := h.1
      omega
    rw [Nat.zero_add, h.cellAt j (by omega)]
    exact hu

theorem own_shape {w : World} {base : Nat} {e : TypeId} {v : Value} {n : Nat} {xs : List Value} (h : w.ownsRow base e 1 v n xs) : ∃ A c, v = .slice A n c ∧ n ≤ c := by
  rcases h.2 with ⟨hv, h0⟩ | ⟨g, cap, cur, hv, _, _, hn, _⟩
  · subst h0
    exact ⟨none, 0, hv, Nat.le_refl _⟩
  · exact ⟨some ⟨g, 0, none⟩, cap, hv, hn⟩

/-- A new cell, at its address. -/
theorem new_one (w : World) (t : TypeId) (u : Value) : ∀ j x, [u][j]? = some x → (w.alloc (.cells #[u] t)).cell? ((⟨w.heap.size, 0, none⟩ : Addr).add j) = some x := by
  intro j x hj
  match j, hj with
  | 0, hj =>
    simp at hj
    subst hj
    simp [Addr.add]

theorem byteCells_at {l : List UInt8} {j : Nat} (h : j < l.length) : (Lib.byteCells l)[j]? = some (.int .u8 (l.getD j 0).toNat) := by
  unfold Lib.byteCells
  rw [List.getElem?_map, List.getElem?_eq_getElem h]
  simp [List.getD, h]

theorem add_zero_addr (b j : Nat) : (⟨b, 0, none⟩ : Addr).add j = ⟨b, j, none⟩ := by
  unfold Addr.add
  split
  · rename_i h0; subst h0; rfl
  · simp

theorem quiet_here {P : Program} {f : FuncId} {args : Array Value} {w : World} {n : Nat} {v : Value}
    (h : Calls P f args (w.drewN n) fun e w' => e = .returned v ∧ w.drewN n = w') : Calls P f args (w.drewN n) fun e w'' => e = .returned v ∧ ∃ m, w'' = w.drewN m :=
  h.mono fun _ _ ⟨he, hm⟩ => ⟨he, n, hm.symm⟩

theorem at_data (s : ByteArray) (k : Nat) (h : k < s.size) : s.data.toList[k]'(by simpa using h) = s[k] := by
  rw [Array.getElem_toList]
  rfl

end Go.Proofs.Ytfdgmoakobjohaa

/- Part MathU. -/
namespace Go.Proofs.Ytfdgmoakobjohaa
set_option linter.unusedVariables false

/-- The k-th byte, or 0. -/
def byt (l : List UInt8) (k : Nat) : Nat := (l.getD k 0).toNat
/-- Is there a k-th byte, and does it go on? -/
def cont (l : List UInt8) (k : Nat) : Bool := decide (k < l.length) && byt l k / 64 == 2

/-- The character with which bytes begin, and how many bytes it has. -/
def dec (l : List UInt8) : Nat × Nat :=
  if byt l 0 < 128 then (byt l 0, 1)
  else if byt l 0 / 32 = 6 ∧ cont l 1 = true then
    if 128 ≤ byt l 0 % 32 * 64 + byt l 1 % 64 then (byt l 0 % 32 * 64 + byt l 1 % 64, 2) else (65533, 1)
  else if byt l 0 / 16 = 14 ∧ cont l 1 = true ∧ cont l 2 = true then
    if 2048 ≤ byt l 0 % 16 * 4096 + byt l 1 % 64 * 64 + byt l 2 % 64 ∧ ¬ (55296 ≤ byt l 0 % 16 * 4096 + byt l 1 % 64 * 64 + byt l 2 % 64 ∧ byt l 0 % 16 * 4096 + byt l 1 % 64 * 64 + byt l 2 % 64 ≤ 57343) then (byt l 0 % 16 * 4096 + byt l 1 % 64 * 64 + byt l 2 % 64, 3) else (65533, 1)
  else if byt l 0 / 8 = 30 ∧ cont l 1 = true ∧ cont l 2 = true ∧ cont l 3 = true then
    if 65536 ≤ byt l 0 % 8 * 262144 + byt l 1 % 64 * 4096 + byt l 2 % 64 * 64 + byt l 3 % 64 ∧ byt l 0 % 8 * 262144 + byt l 1 % 64 * 4096 + byt l 2 % 64 * 64 + byt l 3 % 64 ≤ 1114111 then (byt l 0 % 8 * 262144 + byt l 1 % 64 * 4096 + byt l 2 % 64 * 64 + byt l 3 % 64, 4) else (65533, 1)
  else (65533, 1)

theorem byt_lt (l : List UInt8) (k : Nat) : byt l k < 256 := by unfold byt; exact UInt8.toNat_lt _

theorem get_byt (s : ByteArray) (i k : Nat) : (s.get! (i + k)).toNat = byt (s.data.toList.drop i) k := by
  unfold byt
  have h : s.get! (i + k) = s.data[i + k]! := rfl
  rw [h, List.getD_eq_getElem?_getD, List.getElem?_drop, Array.getElem?_toList]
  rw [getElem!_def]
  cases s.data[i + k]? <;> rfl

theorem cont_eq (s : ByteArray) (i k : Nat) : (decide (i + k < s.size) && byt (s.data.toList.drop i) k / 64 == 2) = cont (s.data.toList.drop i) k := by
  unfold cont
  congr 1
  rw [decide_eq_decide, List.length_drop]
  have : s.data.toList.length = s.size := by simp
  omega

theorem valid_nat (c : Nat) : Utf8.valid (c : Int) = decide (c < 55296 ∨ (57344 ≤ c ∧ c ≤ 1114111)) := by
  unfold Utf8.valid
  rw [Bool.eq_iff_iff]
  simp
  omega

theorem decode_dec (s : ByteArray) (i : Nat) : Utf8.decode s i = dec (s.data.toList.drop i) := by
  have g0 := get_byt s i 0
  have g1 := get_byt s i 1
  have g2 := get_byt s i 2
  have g3 := get_byt s i 3
  have c1 := cont_eq s i 1
  have c2 := cont_eq s i 2
  have c3 := cont_eq s i 3
  have b0 := byt_lt (s.data.toList.drop i) 0
  have b1 := byt_lt (s.data.toList.drop i) 1
  have b2 := byt_lt (s.data.toList.drop i) 2
  have b3 := byt_lt (s.data.toList.drop i) 3
  unfold Utf8.decode dec
  simp only [g0, g1, g2, g3, valid_nat, Utf8.runeError, ge_iff_le]
  simp only [c1, c2, c3]
  simp only [Bool.and_eq_true, beq_iff_eq, decide_eq_true_eq]
  generalize byt (s.data.toList.drop i) 0 = x0 at *
  generalize byt (s.data.toList.drop i) 1 = x1 at *
  generalize byt (s.data.toList.drop i) 2 = x2 at *
  generalize byt (s.data.toList.drop i) 3 = x3 at *
  generalize cont (s.data.toList.drop i) 1 = k1 at *
  generalize cont (s.data.toList.drop i) 2 = k2 at *
  generalize cont (s.data.toList.drop i) 3 = k3 at *
  by_cases h0 : x0 < 128
  · rw [if_pos h0, if_pos h0]
  rw [if_neg h0, if_neg h0]
  by_cases h1 : x0 / 32 = 6 ∧ k1 = true
  · rw [if_pos h1, if_pos h1]
  rw [if_neg h1, if_neg h1]
  by_cases h2 : x0 / 16 = 14 ∧ k1 = true ∧ k2 = true
  · rw [if_pos ⟨⟨h2.1, h2.2.1⟩, h2.2.2⟩, if_pos h2]
    by_cases h : 2048 ≤ x0 % 16 * 4096 + x1 % 64 * 64 + x2 % 64 ∧ ¬ (55296 ≤ x0 % 16 * 4096 + x1 % 64 * 64 + x2 % 64 ∧ x0 % 16 * 4096 + x1 % 64 * 64 + x2 % 64 ≤ 57343)
    · rw [if_pos h, if_pos (by omega)]
    · rw [if_neg h, if_neg (by omega)]
  rw [if_neg (fun h => h2 ⟨h.1.1, h.1.2, h.2⟩), if_neg h2]
  by_cases h3 : x0 / 8 = 30 ∧ k1 = true ∧ k2 = true ∧ k3 = true
  · rw [if_pos ⟨⟨⟨h3.1, h3.2.1⟩, h3.2.2.1⟩, h3.2.2.2⟩, if_pos h3]
    by_cases h : 65536 ≤ x0 % 8 * 262144 + x1 % 64 * 4096 + x2 % 64 * 64 + x3 % 64 ∧ x0 % 8 * 262144 + x1 % 64 * 4096 + x2 % 64 * 64 + x3 % 64 ≤ 1114111
    · rw [if_pos h, if_pos (by omega)]
    · rw [if_neg h, if_neg (by omega)]
  rw [if_neg (fun h => h3 ⟨h.1.1.1, h.1.1.2, h.1.2, h.2⟩), if_neg h3]

/-- May a number be a character? -/
def okR (r : Int) : Prop := (0 ≤ r ∧ r < 55296) ∨ (57343 < r ∧ r ≤ 1114111)

theorem byt_len {l : List UInt8} {k : Nat} (h : cont l k = true) : k < l.length := by
  unfold cont at h
  simp at h
  exact h.1

theorem dec_width {l : List UInt8} (h : 0 < l.length) : 1 ≤ (dec l).2 ∧ (dec l).2 ≤ l.length := by
  unfold dec
  split
  · exact ⟨by simp, by simp; omega⟩
  split
  · rename_i h1
    have := byt_len h1.2
    split
    · exact ⟨by simp, by simp; omega⟩
    · exact ⟨by simp, by simp; omega⟩
  split
  · rename_i h1
    have := byt_len h1.2.2
    split
    · exact ⟨by simp, by simp; omega⟩
    · exact ⟨by simp, by simp; omega⟩
  split
  · rename_i h1
    have := byt_len h1.2.2.2
    split
    · exact ⟨by simp, by simp; omega⟩
    · exact ⟨by simp, by simp; omega⟩
  exact ⟨by simp, by simp; omega⟩

theorem dec_ok (l : List UInt8) : okR (dec l).1 := by
  have b0 := byt_lt l 0
  have b1 := byt_lt l 1
  unfold dec okR
  split
  · simp; omega
  split
  · split
    · simp; omega
    · simp
  split
  · split
    · simp; omega
    · simp
  split
  · split
    · simp; omega
    · simp
  simp

/-- The characters of bytes, at most so many. -/
def runesF : Nat → List UInt8 → List Int
  | 0, _ => []
  | f + 1, l => if l.length = 0 then [] else ((dec l).1 : Int) :: runesF f (l.drop (dec l).2)
/-- The characters of bytes. -/
def runes (l : List UInt8) : List Int := runesF l.length l

theorem runesF_fuel : ∀ (f g : Nat) (l : List UInt8), l.length ≤ f → l.length ≤ g → runesF f l = runesF g l
  | 0, 0, l, _, _ => rfl
  | 0, g + 1, l, h, _ => by
    have : l.length = 0 := by omega
    simp [runesF, this]
  | f + 1, 0, l, _, h => by
    have : l.length = 0 := by omega
    simp [runesF, this]
  | f + 1, g + 1, l, hf, hg => by
    unfold runesF
    by_cases h0 : l.length = 0
    · rw [if_pos h0, if_pos h0]
    · have hw := dec_width (l := l) (by omega)
      rw [if_neg h0, if_neg h0, runesF_fuel f g _ (by rw [List.length_drop]; omega) (by rw [List.length_drop]; omega)]

theorem runes_nil : runes [] = [] := rfl
theorem runes_step {l : List UInt8} (h : 0 < l.length) : runes l = ((dec l).1 : Int) :: runes (l.drop (dec l).2) := by
  have hw := dec_width h
  obtain ⟨m, hm⟩ : ∃ m, l.length = m + 1 := ⟨l.length - 1, by omega⟩
  unfold runes
  rw [hm]
  conv => lhs; unfold runesF
  rw [if_neg (by omega), runesF_fuel m _ _ (by rw [List.length_drop]; omega) (Nat.le_refl _)]

theorem runes_ok : ∀ (n : Nat) (l : List UInt8), l.length ≤ n → ∀ r ∈ runes l, okR r
  | 0, l, h => by
    have : l = [] := List.eq_nil_of_length_eq_zero (by omega)
    subst this
    intro r hr
    cases hr
  | n + 1, l, h => by
    intro r hr
    by_cases h0 : l.length = 0
    · have : l = [] := List.eq_nil_of_length_eq_zero h0
      subst this
      cases hr
    · have hw := dec_width (l := l) (by omega)
      rw [runes_step (by omega)] at hr
      rcases List.mem_cons.1 hr with rfl | hr
      · exact dec_ok l
      · exact runes_ok n _ (by rw [List.length_drop]; omega) r hr

theorem runes_len : ∀ (n : Nat) (l : List UInt8), l.length ≤ n → (runes l).length ≤ l.length
  | 0, l, h => by
    have : l = [] := List.eq_nil_of_length_eq_zero (by omega)
    subst this
    simp [runes_nil]
  | n + 1, l, h => by
    by_cases h0 : l.length = 0
    · have : l = [] := List.eq_nil_of_length_eq_zero h0
      subst this
      simp [runes_nil]
    · have hw := dec_width (l := l) (by omega)
      rw [runes_step (by omega)]
      have := runes_len n (l.drop (dec l).2) (by rw [List.length_drop]; omega)
      rw [List.length_drop] at this
      simp
      omega

/-- The bytes of characters. -/
def enc (l : List Int) : List UInt8 := l.flatMap Lib.encodeRune

theorem enc_nil : enc [] = [] := rfl
theorem enc_cons (r : Int) (l : List Int) : enc (r :: l) = Lib.encodeRune r ++ enc l := by simp [enc]
theorem enc_append (a b : List Int) : enc (a ++ b) = enc a ++ enc b := by simp [enc]

theorem dec_enc {r : Int} (h : okR r) (t : List UInt8) : dec (Lib.encodeRune r ++ t) = (r.toNat, (Lib.encodeRune r).length) := by
  unfold okR at h
  have hb : ∀ x : Int, 0 ≤ x → x < 256 → x.toNat.toUInt8.toNat = x.toNat := by
    intro x h0 h1
    simp
    omega
  by_cases h1 : r ≤ 127
  · have e : Lib.encodeRune r = [r.toNat.toUInt8] := by unfold Lib.encodeRune; rw [Lib.encodeRuneZ_one (by omega) h1]; rfl
    rw [e]
    have b0 : byt ([r.toNat.toUInt8] ++ t) 0 = r.toNat := by
      show r.toNat.toUInt8.toNat = _
      exact hb r (by omega) (by omega)
    unfold dec
    rw [b0, if_pos (by omega)]
    rfl
  by_cases h2 : r ≤ 2047
  · have e : Lib.encodeRune r = [(192 + r / 64).toNat.toUInt8, (128 + r % 64).toNat.toUInt8] := by unfold Lib.encodeRune; rw [Lib.encodeRuneZ_two (by omega) h2]; rfl
    rw [e]
    have b0 : byt ([(192 + r / 64).toNat.toUInt8, (128 + r % 64).toNat.toUInt8] ++ t) 0 = (192 + r / 64).toNat := hb _ (by omega) (by omega)
    have b1 : byt ([(192 + r / 64).toNat.toUInt8, (128 + r % 64).toNat.toUInt8] ++ t) 1 = (128 + r % 64).toNat := hb _ (by omega) (by omega)
    have c1 : cont ([(192 + r / 64).toNat.toUInt8, (128 + r % 64).toNat.toUInt8] ++ t) 1 = true := by
      unfold cont
      rw [b1]
      simp
      omega
    unfold dec
    rw [b0, b1, c1, if_neg (by omega), if_pos ⟨by omega, rfl⟩, if_pos (by omega)]
    simp
    omega
  by_cases h3 : r ≤ 65535
  · have e : Lib.encodeRune r = [(224 + r / 4096).toNat.toUInt8, (128 + r / 64 % 64).toNat.toUInt8, (128 + r % 64).toNat.toUInt8] := by unfold Lib.encodeRune; rw [Lib.encodeRuneZ_three (by omega)]; rfl
    rw [e]
    have b0 : byt ([(224 + r / 4096).toNat.toUInt8, (128 + r / 64 % 64).toNat.toUInt8, (128 + r % 64).toNat.toUInt8] ++ t) 0 = (224 + r / 4096).toNat := hb _ (by omega) (by omega)
    have b1 : byt ([(224 + r / 4096).toNat.toUInt8, (128 + r / 64 % 64).toNat.toUInt8, (128 + r % 64).toNat.toUInt8] ++ t) 1 = (128 + r / 64 % 64).toNat := hb _ (by omega) (by omega)
    have b2 : byt ([(224 + r / 4096).toNat.toUInt8, (128 + r / 64 % 64).toNat.toUInt8, (128 + r % 64).toNat.toUInt8] ++ t) 2 = (128 + r % 64).toNat := hb _ (by omega) (by omega)
    have c1 : cont ([(224 + r / 4096).toNat.toUInt8, (128 + r / 64 % 64).toNat.toUInt8, (128 + r % 64).toNat.toUInt8] ++ t) 1 = true := by
      unfold cont
      rw [b1]
      simp
      omega
    have c2 : cont ([(224 + r / 4096).toNat.toUInt8, (128 + r / 64 % 64).toNat.toUInt8, (128 + r % 64).toNat.toUInt8] ++ t) 2 = true := by
      unfold cont
      rw [b2]
      simp
      omega
    unfold dec
    rw [b0, b1, b2, c1, c2, if_neg (by omega), if_neg (by omega), if_pos ⟨by omega, rfl, rfl⟩, if_pos (by omega)]
    simp
    omega
  · have e : Lib.encodeRune r = [(240 + r / 262144).toNat.toUInt8, (128 + r / 4096 % 64).toNat.toUInt8, (128 + r / 64 % 64).toNat.toUInt8, (128 + r % 64).toNat.toUInt8] := by unfold Lib.encodeRune; rw [Lib.encodeRuneZ_four (by omega) (by omega)]; rfl
    rw [e]
    have b0 : byt ([(240 + r / 262144).toNat.toUInt8, (128 + r / 4096 % 64).toNat.toUInt8, (128 + r / 64 % 64).toNat.toUInt8, (128 + r % 64).toNat.toUInt8] ++ t) 0 = (240 + r / 262144).toNat := hb _ (by omega) (by omega)
    have b1 : byt ([(240 + r / 262144).toNat.toUInt8, (128 + r / 4096 % 64).toNat.toUInt8, (128 + r / 64 % 64).toNat.toUInt8, (128 + r % 64).toNat.toUInt8] ++ t) 1 = (128 + r / 4096 % 64).toNat := hb _ (by omega) (by omega)
    have b2 : byt ([(240 + r / 262144).toNat.toUInt8, (128 + r / 4096 % 64).toNat.toUInt8, (128 + r / 64 % 64).toNat.toUInt8, (128 + r % 64).toNat.toUInt8] ++ t) 2 = (128 + r / 64 % 64).toNat := hb _ (by omega) (by omega)
    have b3 : byt ([(240 + r / 262144).toNat.toUInt8, (128 + r / 4096 % 64).toNat.toUInt8, (128 + r / 64 % 64).toNat.toUInt8, (128 + r % 64).toNat.toUInt8] ++ t) 3 = (128 + r % 64).toNat := hb _ (by omega) (by omega)
    have c1 : cont ([(240 + r / 262144).toNat.toUInt8, (128 + r / 4096 % 64).toNat.toUInt8, (128 + r / 64 % 64).toNat.toUInt8, (128 + r % 64).toNat.toUInt8] ++ t) 1 = true := by
      unfold cont
      rw [b1]
      simp
      omega
    have c2 : cont ([(240 + r / 262144).toNat.toUInt8, (128 + r / 4096 % 64).toNat.toUInt8, (128 + r / 64 % 64).toNat.toUInt8, (128 + r % 64).toNat.toUInt8] ++ t) 2 = true := by
      unfold cont
      rw [b2]
      simp
      omega
    have c3 : cont ([(240 + r / 262144).toNat.toUInt8, (128 + r / 4096 % 64).toNat.toUInt8, (128 + r / 64 % 64).toNat.toUInt8, (128 + r % 64).toNat.toUInt8] ++ t) 3 = true := by
      unfold cont
      rw [b3]
      simp
      omega
    unfold dec
    rw [b0, b1, b2, b3, c1, c2, c3, if_neg (by omega), if_neg (by omega), if_neg (by omega), if_pos ⟨by omega, rfl, rfl, rfl⟩, if_pos (by omega)]
    simp
    omega

theorem runes_enc : ∀ l : List Int, (∀ r ∈ l, okR r) → runes (enc l) = l
  | [], _ => rfl
  | r :: l, h => by
    have hr := h r (by simp)
    have e := dec_enc hr (enc l)
    have hn : 0 ≤ r := by unfold okR at hr; omega
    rw [enc_cons, runes_step (by have := (Lib.encodeRuneZ_length r).1; simp [Lib.encodeRune]; omega), e]
    simp only [List.drop_left]
    rw [runes_enc l (fun x hx => h x (by simp [hx])), Int.toNat_of_nonneg hn]

/-- The characters made right; 'ahead': the one ahead of them. -/
def norm : Int → List Int → List Int
  | _, [] => []
  | a, r :: l => (if r = 13 then [10] else if r = 10 ∧ a = 13 then [] else if r = 0 then [65533] else [r]) ++ norm r l

/-- Is a character one that may stand in a right text? -/
def okN (r : Int) : Prop := okR r ∧ r ≠ 0 ∧ r ≠ 13

theorem norm_ok : ∀ (l : List Int) (a : Int), (∀ r ∈ l, okR r) → ∀ r ∈ norm a l, okN r
  | [], a, h => by simp [norm]
  | x :: l, a, h => by
    intro r hr
    unfold norm at hr
    rcases List.mem_append.1 hr with h1 | h1
    · have hx := h x (by simp)
      split at h1
      · simp at h1; subst h1; exact ⟨by unfold okR; omega, by omega, by omega⟩
      · split at h1
        · cases h1
        · split at h1
          · simp at h1; subst h1; exact ⟨by unfold okR; omega, by omega, by omega⟩
          · simp at h1; subst h1; exact ⟨hx, by assumption, by assumption⟩
    · exact norm_ok l x (fun y hy => h y (by simp [hy])) r h1

theorem norm_same : ∀ (l : List Int) (a : Int), a ≠ 13 → (∀ r ∈ l, okN r) → norm a l = l
  | [], a, _, _ => rfl
  | x :: l, a, ha, h => by
    have hx := h x (by simp)
    unfold norm
    rw [if_neg hx.2.2, if_neg (fun e => ha e.2), if_neg hx.2.1, norm_same l x hx.2.2 (fun y hy => h y (by simp [hy]))]
    rfl

/-- Bytes made right. -/
def right (l : List UInt8) : List UInt8 := enc (norm 0 (runes l))

theorem right_right (l : List UInt8) : right (right l) = right l := by
  have h := norm_ok (runes l) 0 (runes_ok _ l (Nat.le_refl _))
  unfold right
  rw [runes_enc _ (fun r hr => (h r hr).1), norm_same _ 0 (by omega) h]

theorem enc_len : ∀ l : List Int, (enc l).length ≤ 4 * l.length
  | [] => by simp [enc]
  | r :: l => by
    have := (Lib.encodeRuneZ_length r).2
    have ih := enc_len l
    rw [enc_cons, List.length_append, List.length_cons]
    have h : (Lib.encodeRune r).length = (Lib.encodeRuneZ r).length := by simp [Lib.encodeRune]
    omega

/-- Numbers that an int32 may have. -/
def i32s (l : List Int) : Prop := ∀ r ∈ l, -2147483648 ≤ r ∧ r ≤ 2147483647

theorem i32s_at {l : List Int} (h : i32s l) {k : Nat} {x : Int} (hx : l[k]? = some x) : -2147483648 ≤ x ∧ x ≤ 2147483647 := h x (List.mem_of_getElem? hx)

theorem drop_at {l : List Int} {k : Nat} {x : Int} (hx : l[k]? = some x) : l.drop k = x :: l.drop (k + 1) := by
  have hk := (List.getElem?_eq_some_iff.1 hx).1
  rw [List.drop_eq_getElem_cons hk]
  congr 1
  exact (List.getElem?_eq_some_iff.1 hx).2

theorem norm_len : ∀ (l : List Int) (a : Int), (norm a l).length ≤ l.length
  | [], a => by simp [norm]
  | r :: l, a => by
    have ih := norm_len l r
    unfold norm
    rw [List.length_append, List.length_cons]
    split
    · simp; omega
    · split
      · simp; omega
      · split
        · simp; omega
        · simp; omega

end Go.Proofs.Ytfdgmoakobjohaa

/- Part RefM. -/
namespace Go.Proofs.Ytfdgmoakobjohaa
set_option linter.unusedVariables false

/-! ### names -/
def updF (f : List UInt8 → Option Int) (k : List UInt8) (v : Int) : List UInt8 → Option Int := fun l => if l = k then some v else f l
/-- A name's character. -/
def nameB : List UInt8 → Option Int :=
  updF (updF (updF (updF (updF (updF (updF (updF (updF (updF (updF (updF (updF (updF (updF (fun _ => none)
    [97, 109, 112] 38) [108, 116] 60) [103, 116] 62) [113, 117, 111, 116] 34) [97, 112, 111, 115] 39) [110, 98, 115, 112] 160) [99, 111, 112, 121] 169) [114, 101, 103] 174)
    [100, 101, 103] 176) [109, 105, 100, 100, 111, 116] 183) [116, 105, 109, 101, 115] 215) [110, 100, 97, 115, 104] 8211) [109, 100, 97, 115, 104] 8212) [104, 101, 108, 108, 105, 112] 8230) [101, 117, 114, 111] 8364

theorem updF_cases {f : List UInt8 → Option Int} {k : List UInt8} {v : Int} {P : List UInt8 → Int → Prop} (h0 : P k v) (h : ∀ l r, f l = some r → P l r) : ∀ l r, updF f k v l = some r → P l r := by
  intro l r hr
  unfold updF at hr
  split at hr
  · rename_i e; subst e; cases hr; exact h0
  · exact h l r hr

def okNB (r : Int) : Bool := decide ((0 ≤ r ∧ r < 55296) ∨ (57343 < r ∧ r ≤ 1114111)) && decide (r ≠ 0) && decide (r ≠ 13)
theorem okN_of {r : Int} (h : okNB r = true) : okN r := by
  unfold okNB at h
  simp at h
  unfold okN okR
  omega

theorem name_fact (l : List UInt8) (r : Int) (h : nameB l = some r) : 2 ≤ l.length ∧ l.length ≤ 6 ∧ okNB r = true := by
  revert l r
  unfold nameB
  iterate 15 refine updF_cases (P := fun l r => 2 ≤ l.length ∧ l.length ≤ 6 ∧ okNB r = true) (by decide) ?_
  intro l r h
  cases h

/-- Is a byte a small letter? -/
def isLow (c : UInt8) : Bool := decide (97 ≤ c.toNat) && decide (c.toNat ≤ 122)
/-- How many small letters bytes begin with. -/
def lowN (l : List UInt8) : Nat := (l.takeWhile isLow).length

theorem lowN_le (l : List UInt8) : lowN l ≤ l.length := by
  unfold lowN
  exact (List.takeWhile_sublist _).length_le
theorem lowN_take (l : List UInt8) : l.take (lowN l) = l.takeWhile isLow := by
  unfold lowN
  induction l with
  | nil => rfl
  | cons c t ih =>
    rw [List.takeWhile_cons]
    split
    · simp [ih]
    · simp

/-! ### numbers -/
/-- What a digit counts; -1, if it is none. -/
def digR (r : Int) : Int := if 48 ≤ r ∧ r ≤ 57 then r - 48 else if 97 ≤ r ∧ r ≤ 102 then r - 97 + 10 else if 65 ≤ r ∧ r ≤ 70 then r - 65 + 10 else -1
/-- The number of at most m digits with which bytes begin, from a on, and how many these are. -/
def digF : Nat → Int → Int → List UInt8 → Int × Nat
  | 0, _, a, _ => (a, 0)
  | _ + 1, _, a, [] => (a, 0)
  | m + 1, b, a, c :: t => if digR c.toNat < 0 ∨ b ≤ digR c.toNat then (a, 0) else ((digF m b (a * b + digR c.toNat) t).1, (digF m b (a * b + digR c.toNat) t).2 + 1)
/-- What a number stands for. -/
def charB (x : Int) : Int := if x = 0 ∨ x = 13 ∨ ¬ ((0 ≤ x ∧ x < 55296) ∨ (57343 < x ∧ x ≤ 1114111)) then 65533 else x
def numB (l : List UInt8) (k : Nat) (b : Int) (m : Nat) : Int × Nat := if (digF m b 0 (l.drop k)).2 = 0 then (0, 0) else (charB (digF m b 0 (l.drop k)).1, k + (digF m b 0 (l.drop k)).2)
/-- What the number or the name with which bytes begin stands for, and how many bytes it has. -/
def toldB (l : List UInt8) : Int × Nat :=
  if Lib.hasPrefix l [35, 120] = true then numB l 2 16 6
  else if Lib.hasPrefix l [35, 88] = true then numB l 2 16 6
  else if Lib.hasPrefix l [35] = true then numB l 1 10 7
  else match nameB (l.take (lowN l)) with
    | some r => (r, lowN l)
    | none => (0, 0)
/-- What the reference with which bytes begin stands for, and how many bytes it has. -/
def oneB (l : List UInt8) : Int × Nat :=
  if Lib.hasPrefix l [38] = true then
    if (toldB (l.drop 1)).2 = 0 then (0, 0)
    else if Lib.hasPrefix (l.drop (1 + (toldB (l.drop 1)).2)) [59] = true then ((toldB (l.drop 1)).1, (toldB (l.drop 1)).2 + 2) else (0, 0)
  else (0, 0)

theorem charB_ok (x : Int) : okN (charB x) := by
  unfold charB okN okR
  split <;> omega

theorem digR_bd (r : Int) : -1 ≤ digR r ∧ digR r ≤ 15 := by
  unfold digR
  repeat' split
  all_goals omega

theorem digF_len : ∀ (m : Nat) (b a : Int) (l : List UInt8), (digF m b a l).2 ≤ l.length ∧ (digF m b a l).2 ≤ m
  | 0, b, a, l => by simp [digF]
  | m + 1, b, a, [] => by simp [digF]
  | m + 1, b, a, c :: t => by
    unfold digF
    split
    · simp
    · have := digF_len m b (a * b + digR c.toNat) t
      simp only [List.length_cons]
      omega

/-- Small: bytes below 128, at the beginning. -/
def asc (l : List UInt8) (n : Nat) : Prop := ∀ j, j < n → byt l j < 128

theorem asc_cons {c : UInt8} {t : List UInt8} {n : Nat} (hc : c.toNat < 128) (h : asc t n) : asc (c :: t) (n + 1) := by
  intro j hj
  match j with
  | 0 => exact hc
  | j + 1 => exact h j (by omega)

theorem asc_zero (l : List UInt8) : asc l 0 := fun j hj => absurd hj (by omega)

theorem digR_asc {c : UInt8} (h : ¬ digR c.toNat < 0) : c.toNat < 128 := by
  unfold digR at h
  have := c.toNat_lt
  repeat' split at h
  all_goals omega

theorem digF_asc : ∀ (m : Nat) (b a : Int) (l : List UInt8), asc l (digF m b a l).2
  | 0, b, a, l => asc_zero l
  | m + 1, b, a, [] => asc_zero []
  | m + 1, b, a, c :: t => by
    unfold digF
    split
    · exact asc_zero _
    · exact asc_cons (digR_asc (by omega)) (digF_asc m b _ t)

theorem asc_drop {l : List UInt8} {k n : Nat} (h : asc (l.drop k) n) (h0 : asc l k) : asc l (k + n) := by
  intro j hj
  by_cases hk : j < k
  · exact h0 j hk
  · have := h (j - k) (by omega)
    unfold byt at this ⊢
    rw [List.getD_eq_getElem?_getD, List.getElem?_drop] at this
    rw [List.getD_eq_getElem?_getD]
    rw [show k + (j - k) = j by omega] at this
    exact this

theorem asc_low (l : List UInt8) : asc l (lowN l) := by
  unfold lowN
  induction l with
  | nil => exact asc_zero _
  | cons c t ih =>
    rw [List.takeWhile_cons]
    split
    · rename_i h
      unfold isLow at h
      simp at h
      exact asc_cons (by omega) ih
    · exact asc_zero _

theorem pre_one {l : List UInt8} {c : UInt8} (h : Lib.hasPrefix l [c] = true) : ∃ t, l = c :: t := by
  unfold Lib.hasPrefix at h
  cases l with
  | nil => simp [List.isPrefixOf] at h
  | cons x t => simp [List.isPrefixOf] at h; exact ⟨t, by rw [h]⟩
theorem pre_two {l : List UInt8} {c d : UInt8} (h : Lib.hasPrefix l [c, d] = true) : ∃ t, l = c :: d :: t := by
  unfold Lib.hasPrefix at h
  match l, h with
  | [], h => simp [List.isPrefixOf] at h
  | [x], h => simp [List.isPrefixOf] at h
  | x :: y :: t, h =>
    simp [List.isPrefixOf] at h
    exact ⟨t, by rw [h.1, h.2]⟩
theorem pre_cons (c : UInt8) (t : List UInt8) (d : UInt8) : Lib.hasPrefix (c :: t) [d] = decide (d = c) := by
  unfold Lib.hasPrefix
  simp only [List.isPrefixOf]
  by_cases h : d = c <;> simp [h]
theorem pre_nil (d : UInt8) : Lib.hasPrefix [] [d] = false := rfl

theorem numB_fact (l : List UInt8) (k : Nat) (b : Int) (m : Nat) (hk : k ≤ l.length) (h0 : asc l k) (h : (numB l k b m).2 ≠ 0) :
    okN (numB l k b m).1 ∧ k < (numB l k b m).2 ∧ (numB l k b m).2 ≤ k + m ∧ (numB l k b m).2 ≤ l.length ∧ asc l (numB l k b m).2 := by
  unfold numB at h ⊢
  split
  · rename_i e; rw [if_pos e] at h; exact absurd rfl h
  · rename_i e
    have hl := digF_len m b 0 (l.drop k)
    rw [List.length_drop] at hl
    exact ⟨charB_ok _, by simp only; omega, by simp only; omega, by simp only; omega, asc_drop (digF_asc m b 0 _) h0⟩

theorem told_fact (l : List UInt8) (h : (toldB l).2 ≠ 0) : okN (toldB l).1 ∧ 2 ≤ (toldB l).2 ∧ (toldB l).2 ≤ 8 ∧ (toldB l).2 ≤ l.length ∧ asc l (toldB l).2 := by
  unfold toldB at h ⊢
  split
  · rename_i e
    rw [if_pos e] at h
    obtain ⟨t, rfl⟩ := pre_two e
    have := numB_fact _ 2 16 6 (by simp) (asc_cons (by decide) (asc_cons (by decide) (asc_zero _))) h
    exact ⟨this.1, by omega, by omega, this.2.2.2.1, this.2.2.2.2⟩
  · rename_i e0
    rw [if_neg e0] at h
    split
    · rename_i e
      rw [if_pos e] at h
      obtain ⟨t, rfl⟩ := pre_two e
      have := numB_fact _ 2 16 6 (by simp) (asc_cons (by decide) (asc_cons (by decide) (asc_zero _))) h
      exact ⟨this.1, by omega, by omega, this.2.2.2.1, this.2.2.2.2⟩
    · rename_i e1
      rw [if_neg e1] at h
      split
      · rename_i e
        rw [if_pos e] at h
        obtain ⟨t, rfl⟩ := pre_one e
        have := numB_fact _ 1 10 7 (by simp) (asc_cons (by decide) (asc_zero _)) h
        exact ⟨this.1, by omega, by omega, this.2.2.2.1, this.2.2.2.2⟩
      · rename_i e2
        rw [if_neg e2] at h
        cases hn : nameB (l.take (lowN l)) with
        | none => rw [hn] at h; exact absurd rfl h
        | some r =>
          have hf := name_fact _ _ hn
          have hl := lowN_le l
          rw [List.length_take] at hf
          exact ⟨okN_of hf.2.2, by simp only; omega, by simp only; omega, hl, asc_low l⟩

theorem one_fact (l : List UInt8) (h : (oneB l).2 ≠ 0) : okN (oneB l).1 ∧ 4 ≤ (oneB l).2 ∧ (oneB l).2 ≤ 10 ∧ (oneB l).2 ≤ l.length ∧ asc l (oneB l).2 := by
  unfold oneB at h ⊢
  split
  · rename_i e
    rw [if_pos e] at h
    obtain ⟨t, rfl⟩ := pre_one e
    rw [List.drop_succ_cons, List.drop_zero] at h ⊢
    split
    · rename_i e1; rw [if_pos e1] at h; exact absurd rfl h
    · rename_i e1
      rw [if_neg e1] at h
      split
      · rename_i e2
        have hf := told_fact t e1
        obtain ⟨q, hq⟩ := pre_one e2
        have hlen := congrArg List.length hq
        rw [List.length_drop] at hlen
        simp only [List.length_cons] at hlen
        refine ⟨hf.1, by simp only; omega, by simp only; omega, by simp only [List.length_cons]; omega, ?_⟩
        have ha := asc_cons (c := 38) (by decide) hf.2.2.2.2
        have hb : asc (38 :: t) ((toldB t).2 + 1 + 1) := by
          refine asc_drop (n := 1) ?_ ha
          rw [Nat.add_comm] at hq
          rw [hq]
          exact asc_cons (by decide) (asc_zero _)
        exact hb
      · rename_i e2; rw [if_neg e2] at h; exact absurd rfl h
  · rename_i e; rw [if_neg e] at h; exact absurd rfl h

/-! ### decoded -/
def decF : Nat → List UInt8 → List UInt8
  | 0, _ => []
  | _ + 1, [] => []
  | f + 1, c :: t => if c = 38 then (if (oneB (c :: t)).2 = 0 then 38 :: decF f t else Lib.encodeRune (oneB (c :: t)).1 ++ decF f ((c :: t).drop (oneB (c :: t)).2)) else c :: decF f t
/-- Bytes with their references told. -/
def decB (l : List UInt8) : List UInt8 := decF l.length l

theorem decF_fuel : ∀ (f g : Nat) (l : List UInt8), l.length ≤ f → l.length ≤ g → decF f l = decF g l
  | 0, 0, l, _, _ => rfl
  | 0, g + 1, [], _, _ => rfl
  | 0, g + 1, c :: t, h, _ => by simp at h
  | f + 1, 0, [], _, _ => rfl
  | f + 1, 0, c :: t, _, h => by simp at h
  | f + 1, g + 1, [], _, _ => rfl
  | f + 1, g + 1, c :: t, hf, hg => by
    simp only [List.length_cons] at hf hg
    unfold decF
    rw [decF_fuel f g t (by omega) (by omega)]
    by_cases h1 : (oneB (c :: t)).2 = 0
    · rw [if_pos h1, if_pos h1]
    · rw [if_neg h1, if_neg h1, decF_fuel f g ((c :: t).drop (oneB (c :: t)).2) (by rw [List.length_drop, List.length_cons]; omega) (by rw [List.length_drop, List.length_cons]; omega)]

theorem decB_nil : decB [] = [] := rfl
theorem decB_cons (c : UInt8) (t : List UInt8) : decB (c :: t) = if c = 38 then (if (oneB (c :: t)).2 = 0 then 38 :: decB t else Lib.encodeRune (oneB (c :: t)).1 ++ decB ((c :: t).drop (oneB (c :: t)).2)) else c :: decB t := by
  unfold decB
  show decF (t.length + 1) (c :: t) = _
  conv => lhs; unfold decF
  by_cases h1 : (oneB (c :: t)).2 = 0
  · rw [if_pos h1, if_pos h1]
  · rw [if_neg h1, if_neg h1, decF_fuel t.length _ ((c :: t).drop (oneB (c :: t)).2) (by rw [List.length_drop, List.length_cons]; omega) (Nat.le_refl _)]

/-- Bytes without & stay. -/
theorem decB_skip : ∀ (p t : List UInt8), (∀ c ∈ p, c ≠ 38) → decB (p ++ t) = p ++ decB t
  | [], t, _ => rfl
  | c :: p, t, h => by
    rw [List.cons_append, decB_cons, if_neg (h c (by simp)), decB_skip p t (fun x hx => h x (by simp [hx]))]
    rfl
theorem decB_none {l : List UInt8} (h : ∀ c ∈ l, c ≠ 38) : decB l = l := by
  have := decB_skip l [] h
  simpa [decB_nil] using this
theorem decB_ref {t : List UInt8} (h : (oneB (38 :: t)).2 ≠ 0) : decB (38 :: t) = Lib.encodeRune (oneB (38 :: t)).1 ++ decB ((38 :: t).drop (oneB (38 :: t)).2) := by
  rw [decB_cons, if_pos rfl, if_neg h]
theorem decB_amp {t : List UInt8} (h : (oneB (38 :: t)).2 = 0) : decB (38 :: t) = 38 :: decB t := by
  rw [decB_cons, if_pos rfl, if_pos h]

theorem encodeRune_le (r : Int) : 1 ≤ (Lib.encodeRune r).length ∧ (Lib.encodeRune r).length ≤ 4 := by
  have := Lib.encodeRuneZ_length r
  simpa [Lib.encodeRune] using this

theorem decB_len : ∀ (n : Nat) (l : List UInt8), l.length ≤ n → (decB l).length ≤ l.length
  | 0, l, h => by
    have : l = [] := List.eq_nil_of_length_eq_zero (by omega)
    subst this
    simp [decB_nil]
  | n + 1, [], h => by simp [decB_nil]
  | n + 1, c :: t, h => by
    simp only [List.length_cons] at h
    rw [decB_cons]
    split
    · split
      · have := decB_len n t (by omega)
        simp only [List.length_cons]
        omega
      · rename_i h1
        have hf := one_fact _ h1
        have he := encodeRune_le (oneB (c :: t)).1
        have := decB_len n ((c :: t).drop (oneB (c :: t)).2) (by rw [List.length_drop, List.length_cons]; omega)
        rw [List.length_drop] at this
        simp only [List.length_append]
        omega
    · have := decB_len n t (by omega)
      simp only [List.length_cons]
      omega

/-! ### written -/
theorem take_snoc' {l : List UInt8} {k : Nat} {c : UInt8} (h : l[k]? = some c) : l.take (k + 1) = l.take k ++ [c] := by rw [List.take_add_one, h]; rfl

/-- What a byte is written as. -/
def wrB (v : Bool) (c : UInt8) : List UInt8 :=
  if c = 38 then [38, 97, 109, 112, 59] else if c = 60 then [38, 108, 116, 59] else if c = 62 then [38, 103, 116, 59] else if c = 34 ∧ v = true then [38, 113, 117, 111, 116, 59] else []
def wrC (v : Bool) (c : UInt8) : List UInt8 := if wrB v c = [] then [c] else wrB v c
/-- Bytes, written. -/
def escB (v : Bool) (l : List UInt8) : List UInt8 := l.flatMap (wrC v)

theorem wrC_same {v : Bool} {c : UInt8} (h : wrB v c = []) : wrC v c = [c] := by unfold wrC; rw [if_pos h]
theorem wrC_other {v : Bool} {c : UInt8} (h : wrB v c ≠ []) : wrC v c = wrB v c := by unfold wrC; rw [if_neg h]

theorem escB_nil (v : Bool) : escB v [] = [] := rfl
theorem escB_cons (v : Bool) (c : UInt8) (t : List UInt8) : escB v (c :: t) = wrC v c ++ escB v t := by simp [escB]
theorem escB_append (v : Bool) (a b : List UInt8) : escB v (a ++ b) = escB v a ++ escB v b := by simp [escB]

theorem wrB_len (v : Bool) (c : UInt8) : (wrB v c).length ≤ 6 := by
  unfold wrB
  repeat' split
  all_goals simp
theorem wrC_len (v : Bool) (c : UInt8) : 1 ≤ (wrC v c).length ∧ (wrC v c).length ≤ 6 := by
  have := wrB_len v c
  unfold wrC
  split
  · simp
  · rename_i h
    have : (wrB v c).length ≠ 0 := fun e => h (List.eq_nil_of_length_eq_zero e)
    omega
theorem escB_len (v : Bool) : ∀ l : List UInt8, l.length ≤ (escB v l).length ∧ (escB v l).length ≤ 6 * l.length
  | [] => by simp [escB_nil]
  | c :: t => by
    have := wrC_len v c
    have := escB_len v t
    rw [escB_cons, List.length_append, List.length_cons]
    omega

theorem one_amp (t : List UInt8) : oneB (38 :: 97 :: 109 :: 112 :: 59 :: t) = (38, 5) := rfl
theorem one_lt (t : List UInt8) : oneB (38 :: 108 :: 116 :: 59 :: t) = (60, 4) := rfl
theorem one_gt (t : List UInt8) : oneB (38 :: 103 :: 116 :: 59 :: t) = (62, 4) := rfl
theorem one_quot (t : List UInt8) : oneB (38 :: 113 :: 117 :: 111 :: 116 :: 59 :: t) = (34, 6) := rfl

theorem dec_wr (v : Bool) (c : UInt8) (t : List UInt8) : decB (wrC v c ++ t) = c :: decB t := by
  unfold wrC wrB
  by_cases h1 : c = 38
  · subst h1
    rw [if_pos rfl, if_neg (by simp)]
    show decB (38 :: 97 :: 109 :: 112 :: 59 :: t) = _
    rw [decB_ref (by rw [one_amp]; simp), one_amp]
    rfl
  rw [if_neg h1]
  by_cases h2 : c = 60
  · subst h2
    rw [if_pos rfl, if_neg (by simp)]
    show decB (38 :: 108 :: 116 :: 59 :: t) = _
    rw [decB_ref (by rw [one_lt]; simp), one_lt]
    rfl
  rw [if_neg h2]
  by_cases h3 : c = 62
  · subst h3
    rw [if_pos rfl, if_neg (by simp)]
    show decB (38 :: 103 :: 116 :: 59 :: t) = _
    rw [decB_ref (by rw [one_gt]; simp), one_gt]
    rfl
  rw [if_neg h3]
  by_cases h4 : c = 34 ∧ v = true
  · rw [if_pos h4]
    obtain ⟨rfl, rfl⟩ := h4
    rw [if_neg (by simp)]
    show decB (38 :: 113 :: 117 :: 111 :: 116 :: 59 :: t) = _
    rw [decB_ref (by rw [one_quot]; simp), one_quot]
    rfl
  rw [if_neg h4, if_pos rfl]
  show decB (c :: t) = _
  rw [decB_cons, if_neg h1]

theorem dec_esc (v : Bool) : ∀ l : List UInt8, decB (escB v l) = l
  | [] => rfl
  | c :: t => by rw [escB_cons, dec_wr, dec_esc v t]

/-- Of what is written no byte is <, >, or (in a value) a quote. -/
theorem wr_bare (x : UInt8) : ∀ c ∈ wrC true x, c ≠ 60 ∧ c ≠ 62 ∧ c ≠ 34 := by
  unfold wrC
  by_cases h1 : x = 38
  · subst h1; decide
  by_cases h2 : x = 60
  · subst h2; decide
  by_cases h3 : x = 62
  · subst h3; decide
  by_cases h4 : x = 34
  · subst h4; decide
  have e : wrB true x = [] := by
    unfold wrB
    rw [if_neg h1, if_neg h2, if_neg h3, if_neg (fun h => h4 h.1)]
  rw [if_pos e]
  intro c hc
  simp at hc
  subst hc
  exact ⟨h2, h3, h4⟩
theorem esc_bare (l : List UInt8) : ∀ c ∈ escB true l, c ≠ 60 ∧ c ≠ 62 ∧ c ≠ 34 := by
  intro c hc
  unfold escB at hc
  obtain ⟨x, _, hx⟩ := List.mem_flatMap.1 hc
  exact wr_bare x c hx

/-! ### right texts -/
theorem enc_one {r : Int} (h0 : 0 ≤ r) (h1 : r ≤ 127) : Lib.encodeRune r = [r.toNat.toUInt8] := by unfold Lib.encodeRune; rw [Lib.encodeRuneZ_one h0 h1]; rfl

theorem enc_high {r : Int} (h0 : okR r) (h1 : 127 < r) : ∀ c ∈ Lib.encodeRune r, 128 ≤ c.toNat := by
  intro c hc
  unfold Lib.encodeRune at hc
  obtain ⟨x, hx, rfl⟩ := List.mem_map.1 hc
  have hb := Lib.encodeRuneZ_byte r x hx
  have : 128 ≤ x := by
    unfold okR at h0
    unfold Lib.encodeRuneZ at hx
    repeat' split at hx
    all_goals simp at hx
    all_goals omega
  simp
  omega

theorem enc_drop : ∀ (n : Nat) (L : List Int), (∀ r ∈ L, okR r) → asc (enc L) n → n ≤ (enc L).length → (enc L).drop n = enc (L.drop n)
  | 0, L, _, _, _ => rfl
  | n + 1, [], _, _, h => by simp [enc_nil] at h
  | n + 1, r :: L, hok, ha, hn => by
    have hr := hok r (by simp)
    have h0 : 0 ≤ r := by unfold okR at hr; omega
    by_cases h1 : r ≤ 127
    · rw [enc_cons, enc_one h0 h1] at ha hn ⊢
      simp only [List.cons_append, List.nil_append, List.length_cons] at ha hn ⊢
      rw [List.drop_succ_cons, List.drop_succ_cons]
      refine enc_drop n L (fun x hx => hok x (by simp [hx])) (fun j hj => ?_) (by omega)
      exact ha (j + 1) (by omega)
    · exfalso
      have hh := enc_high hr (by omega)
      have hl := encodeRune_le r
      rw [enc_cons] at ha
      have := ha 0 (by omega)
      cases he : Lib.encodeRune r with
      | nil => rw [he] at hl; simp at hl
      | cons c t =>
        rw [he] at this hh
        have h2 := hh c (by simp)
        have e : byt (c :: t ++ enc L) 0 = c.toNat := rfl
        omega

theorem dec_right : ∀ (n : Nat) (L : List Int), L.length ≤ n → (∀ r ∈ L, okN r) → ∃ L', (∀ r ∈ L', okN r) ∧ decB (enc L) = enc L'
  | 0, L, h, _ => by
    have : L = [] := List.eq_nil_of_length_eq_zero (by omega)
    subst this
    exact ⟨[], by simp, rfl⟩
  | n + 1, [], h, _ => ⟨[], by simp, rfl⟩
  | n + 1, r :: L, h, hok => by
    simp only [List.length_cons] at h
    have hr := hok r (by simp)
    have hL : ∀ x ∈ L, okN x := fun x hx => hok x (by simp [hx])
    have h0 : 0 ≤ r := by have := hr.1; unfold okR at this; omega
    obtain ⟨L1, ok1, e1⟩ := dec_right n L (by omega) hL
    have hcons : decB (enc (r :: L)) = Lib.encodeRune r ++ decB (enc L) → ∃ L', (∀ r ∈ L', okN r) ∧ decB (enc (r :: L)) = enc L' := by
      intro e
      refine ⟨r :: L1, ?_, by rw [e, e1, enc_cons]⟩
      intro x hx
      rcases List.mem_cons.1 hx with rfl | hx
      · exact hr
      · exact ok1 x hx
    by_cases h1 : r ≤ 127
    · have ee := enc_one h0 h1
      by_cases h38 : r = 38
      · subst h38
        have e38 : enc (38 :: L) = 38 :: enc L := by rw [enc_cons, ee]; rfl
        by_cases ho : (oneB (38 :: enc L)).2 = 0
        · exact hcons (by rw [e38, decB_amp ho, ee]; rfl)
        · have hf := one_fact _ ho
          rw [← e38] at hf
          have hd := enc_drop _ _ (fun x hx => (hok x hx).1) hf.2.2.2.2 hf.2.2.2.1
          obtain ⟨L2, ok2, e2⟩ := dec_right n ((38 :: L).drop (oneB (enc (38 :: L))).2) (by rw [List.length_drop, List.length_cons]; omega) (fun x hx => hok x (List.mem_of_mem_drop hx))
          refine ⟨(oneB (enc (38 :: L))).1 :: L2, ?_, ?_⟩
          · intro x hx
            rcases List.mem_cons.1 hx with rfl | hx
            · exact hf.1
            · exact ok2 x hx
          · rw [e38, decB_ref ho, ← e38, hd, e2]
            exact (enc_cons _ _).symm
      · refine hcons ?_
        rw [enc_cons, ee]
        refine decB_skip _ _ ?_
        intro c hc
        simp at hc
        subst hc
        intro e
        have := congrArg UInt8.toNat e
        simp at this
        omega
    · refine hcons ?_
      rw [enc_cons]
      refine decB_skip _ _ ?_
      intro c hc e
      have := enc_high hr.1 (by omega) c hc
      rw [e] at this
      simp at this

theorem wr_high {v : Bool} {c : UInt8} (h : 128 ≤ c.toNat) : wrC v c = [c] := by
  have h1 : c ≠ 38 := by rintro rfl; simp at h
  have h2 : c ≠ 60 := by rintro rfl; simp at h
  have h3 : c ≠ 62 := by rintro rfl; simp at h
  have h4 : ¬ (c = 34 ∧ v = true) := by rintro ⟨rfl, _⟩; simp at h
  unfold wrC wrB
  rw [if_neg h1, if_neg h2, if_neg h3, if_neg h4, if_pos rfl]

theorem esc_high (v : Bool) : ∀ l : List UInt8, (∀ c ∈ l, 128 ≤ c.toNat) → escB v l = l
  | [], _ => rfl
  | c :: t, h => by rw [escB_cons, wr_high (h c (by simp)), esc_high v t (fun x hx => h x (by simp [hx]))]; rfl

theorem wr_right (v : Bool) {r : Int} (hr : okN r) (h1 : r ≤ 127) : ∃ L', (∀ x ∈ L', okN x) ∧ escB v (Lib.encodeRune r) = enc L' := by
  have h0 : 0 ≤ r := by have := hr.1; unfold okR at this; omega
  have ee := enc_one h0 h1
  have e2 : escB v (Lib.encodeRune r) = wrC v r.toNat.toUInt8 := by rw [ee, escB_cons, escB_nil, List.append_nil]
  rw [e2]
  by_cases hw : wrB v r.toNat.toUInt8 = []
  · refine ⟨[r], by intro x hx; simp at hx; subst hx; exact hr, ?_⟩
    unfold wrC
    rw [if_pos hw, enc_cons, enc_nil, List.append_nil, ee]
  · unfold wrC
    rw [if_neg hw]
    unfold wrB at hw ⊢
    split
    · exact ⟨[38, 97, 109, 112, 59], by intro x hx; exact okN_of (by simp at hx; rcases hx with rfl | rfl | rfl | rfl | rfl <;> decide), rfl⟩
    split
    · exact ⟨[38, 108, 116, 59], by intro x hx; exact okN_of (by simp at hx; rcases hx with rfl | rfl | rfl | rfl <;> decide), rfl⟩
    split
    · exact ⟨[38, 103, 116, 59], by intro x hx; exact okN_of (by simp at hx; rcases hx with rfl | rfl | rfl | rfl <;> decide), rfl⟩
    split
    · exact ⟨[38, 113, 117, 111, 116, 59], by intro x hx; exact okN_of (by simp at hx; rcases hx with rfl | rfl | rfl | rfl | rfl | rfl <;> decide), rfl⟩
    · exact ⟨[], by simp, rfl⟩

theorem esc_right (v : Bool) : ∀ L : List Int, (∀ r ∈ L, okN r) → ∃ L', (∀ r ∈ L', okN r) ∧ escB v (enc L) = enc L'
  | [], _ => ⟨[], by simp, rfl⟩
  | r :: L, hok => by
    have hr := hok r (by simp)
    obtain ⟨L1, ok1, e1⟩ := esc_right v L (fun x hx => hok x (by simp [hx]))
    obtain ⟨L2, ok2, e2⟩ : ∃ L2, (∀ x ∈ L2, okN x) ∧ escB v (Lib.encodeRune r) = enc L2 := by
      by_cases h1 : r ≤ 127
      · exact wr_right v hr h1
      · exact ⟨[r], by intro x hx; simp at hx; subst hx; exact hr, by rw [esc_high v _ (enc_high hr.1 (by omega)), enc_cons, enc_nil, List.append_nil]⟩
    refine ⟨L2 ++ L1, ?_, by rw [enc_cons, escB_append, e1, e2, enc_append]⟩
    intro x hx
    rcases List.mem_append.1 hx with h | h
    · exact ok2 x h
    · exact ok1 x h

/-! ### digits of a number -/
/-- The number of digits, from a on. -/
def valB (b a : Int) (l : List UInt8) : Int := l.foldl (fun x c => x * b + digR c.toNat) a

theorem digF_val : ∀ (T : List UInt8) (m : Nat) (b a : Int) (t : List UInt8), (∀ c ∈ T, 0 ≤ digR c.toNat ∧ digR c.toNat < b) → T.length ≤ m → (∀ c q, t = c :: q → digR c.toNat < 0) →
    digF m b a (T ++ t) = (valB b a T, T.length)
  | [], 0, b, a, t, _, _, _ => rfl
  | [], m + 1, b, a, [], _, _, _ => rfl
  | [], m + 1, b, a, c :: q, _, _, ht => by
    show digF (m + 1) b a (c :: q) = _
    unfold digF
    rw [if_pos (Or.inl (ht c q rfl))]
    rfl
  | c :: T, 0, b, a, t, _, h, _ => by simp at h
  | c :: T, m + 1, b, a, t, hT, h, ht => by
    have hc := hT c (by simp)
    show digF (m + 1) b a (c :: (T ++ t)) = _
    unfold digF
    rw [if_neg (by omega), digF_val T m b _ t (fun x hx => hT x (by simp [hx])) (by simpa using h) ht]
    rfl

theorem pre_two_no {c d x y : UInt8} {t : List UInt8} (h : d ≠ y) : Lib.hasPrefix (x :: y :: t) [c, d] = false := by
  unfold Lib.hasPrefix
  simp only [List.isPrefixOf]
  simp [h]

theorem one_num {r : Int} {n : Nat} {u : List UInt8} (ht : toldB u = (r, n)) (hn : n ≠ 0) (hu : Lib.hasPrefix (u.drop n) [59] = true) : oneB (38 :: u) = (r, n + 2) := by
  unfold oneB
  rw [if_pos (by rw [pre_cons]; rfl), List.drop_succ_cons, List.drop_zero, ht]
  simp only
  rw [if_neg hn, show 1 + n = n + 1 by omega, List.drop_succ_cons, if_pos hu]

theorem one_tens {T : List UInt8} {n : Int} (hT : ∀ c ∈ T, 48 ≤ c.toNat ∧ c.toNat ≤ 57) (h0 : T ≠ []) (h7 : T.length ≤ 7) (hv : valB 10 0 T = n) (hok : okN n) :
    oneB (38 :: 35 :: (T ++ [59, 120])) = (n, T.length + 3) := by
  have hd : ∀ c ∈ T, 0 ≤ digR c.toNat ∧ digR c.toNat < 10 := by
    intro c hc
    have := hT c hc
    unfold digR
    rw [if_pos (by omega)]
    omega
  have hF := digF_val T 7 10 0 [59, 120] hd h7 (by intro c q h; cases h; decide)
  obtain ⟨c, T', rfl⟩ : ∃ c T', T = c :: T' := by cases T with | nil => exact absurd rfl h0 | cons c t => exact ⟨c, t, rfl⟩
  have hc := hT c (by simp)
  have ht : toldB (35 :: (c :: T' ++ [59, 120])) = (n, (c :: T').length + 1) := by
    unfold toldB
    have p1 : Lib.hasPrefix (35 :: (c :: T' ++ [59, 120])) [35, 120] = false := pre_two_no (by rintro rfl; simp at hc)
    have p2 : Lib.hasPrefix (35 :: (c :: T' ++ [59, 120])) [35, 88] = false := pre_two_no (by rintro rfl; simp at hc)
    rw [if_neg (by rw [p1]; simp), if_neg (by rw [p2]; simp), if_pos (by rw [pre_cons]; rfl)]
    unfold numB
    rw [List.drop_succ_cons, List.drop_zero, hF, hv]
    simp only
    rw [if_neg (by simp)]
    unfold charB
    rw [if_neg (by unfold okN okR at hok; omega), Nat.add_comm]
  have := one_num ht (by omega) (by rw [List.drop_succ_cons, List.drop_left]; rfl)
  rw [this]

theorem one_sixteens {T : List UInt8} {n : Int} (hT : ∀ c ∈ T, 0 ≤ digR c.toNat) (h0 : T ≠ []) (h6 : T.length ≤ 6) (hv : valB 16 0 T = n) (hok : okN n) :
    oneB (38 :: 35 :: 120 :: (T ++ [59, 120])) = (n, T.length + 4) := by
  have hd : ∀ c ∈ T, 0 ≤ digR c.toNat ∧ digR c.toNat < 16 := by
    intro c hc
    have := hT c hc
    have := digR_bd c.toNat
    omega
  have hF := digF_val T 6 16 0 [59, 120] hd h6 (by intro c q h; cases h; decide)
  have hl : T.length ≠ 0 := fun e => h0 (List.eq_nil_of_length_eq_zero e)
  have ht : toldB (35 :: 120 :: (T ++ [59, 120])) = (n, T.length + 2) := by
    unfold toldB
    have p1 : Lib.hasPrefix (35 :: 120 :: (T ++ [59, 120])) [35, 120] = true := by
      unfold Lib.hasPrefix
      simp [List.isPrefixOf]
    rw [if_pos p1]
    unfold numB
    rw [List.drop_succ_cons, List.drop_succ_cons, List.drop_zero, hF, hv]
    simp only
    rw [if_neg hl]
    unfold charB
    rw [if_neg (by unfold okN okR at hok; omega), Nat.add_comm]
  have := one_num ht (by omega) (by rw [List.drop_succ_cons, List.drop_succ_cons, List.drop_left]; rfl)
  rw [this]

end Go.Proofs.Ytfdgmoakobjohaa

/- Part Map. -/
namespace Go.Proofs.Ytfdgmoakobjohaa
open Go.RowKit Go.Maps
set_option linter.unusedVariables false

theorem strKeyed : Keyed Try.prog 9 := string_keyed Try.underlying9
theorem zero32 (w : World) : (zeroValue 21).run Try.prog w = .ok (.int .i32 0) w := by kernel_rfl

/-- What a datum says of texts. -/
def View (D : DataW Unit) (f : List UInt8 → Option Int) : Prop :=
  IsMap D ∧ ∀ l, Maps.has D (.string l) = (f l).isSome ∧ ∀ z, D.atKey (.string l) z = match f l with | some r => .lit (.int .i32 r) | none => z

theorem View.empty : View (.map []) (fun _ => none) := ⟨isMap_empty, fun l => ⟨rfl, fun z => rfl⟩⟩

theorem View.put {D : DataW Unit} {f : List UInt8 → Option Int} (h : View D f) (k : List UInt8) (v : Int) : View (D.put (.string k) (.lit (.int .i32 v))) (updF f k v) := by
  refine ⟨h.1.put _ _, fun l => ?_⟩
  unfold updF
  by_cases e : l = k
  · subst e
    rw [if_pos rfl]
    exact ⟨has_put_same h.1 (show WideAt.IsKeyLit (.string l) from trivial) _, fun z => atKey_put_same h.1 (show WideAt.IsKeyLit (.string l) from trivial) _ z⟩
  · rw [if_neg e]
    have hne : (Lit.string l) ≠ .string k := by intro h; injection h; exact e ‹_›
    refine ⟨?_, fun z => ?_⟩
    · rw [has_put_other hne]; exact (h.2 l).1
    · rw [atKey_put_other hne]; exact (h.2 l).2 z

/-- Block b is a map of at most n entries that holds just what f tells. -/
def Names (w : World) (b n : Nat) (f : List UInt8 → Option Int) : Prop := ∃ D : DataW Unit, w.ownsMap Try.prog 9 (plainElem Try.prog 21) b n D ∧ View D f

theorem Names.below {w w' : World} {b n : Nat} {f : List UInt8 → Option Int} (h : Names w b n f) (hb : Below w.heap.size w w') : Names w' b n f := by
  obtain ⟨D, ⟨es, clock, hh, F, hs, hD⟩, hv⟩ := h
  have hlt := (Array.getElem?_eq_some_iff.1 hh).1
  exact ⟨D, ⟨es, clock, (hb.block b hlt).trans hh, F, hs, hD⟩, hv⟩

theorem Names.lt {w : World} {b n : Nat} {f : List UInt8 → Option Int} (h : Names w b n f) : b < w.heap.size := by
  obtain ⟨D, h, _⟩ := h
  exact h.lt

theorem Names.made (w : World) : Names (w.alloc (.map #[] 0)) w.heap.size 0 (fun _ => none) := ⟨_, World.ownsMap_made _ _ _ _, View.empty⟩

end Go.Proofs.Ytfdgmoakobjohaa

/- Part MemB. -/
namespace Go.Proofs.Ytfdgmoakobjohaa
open Go.RowKit
set_option linter.unusedVariables false

theorem own_below {w w' : World} {base : Nat} {e : TypeId} {s : Nat} {v : Value} {n : Nat} {xs : List Value} (h : w.ownsRow base e s v n xs) (hb : Below w.heap.size w w') : w'.ownsRow base e s v n xs := by
  refine ⟨h.1, ?_⟩
  rcases h.2 with h2 | ⟨g, cap, cur, hv, hg, hh, r⟩
  · exact .inl h2
  · exact .inr ⟨g, cap, cur, hv, hg, (hb.block g (Array.getElem?_eq_some_iff.1 hh).1).trans hh, r⟩

theorem own_more {w : World} {base base' : Nat} {e : TypeId} {s : Nat} {v : Value} {n : Nat} {xs : List Value} (h : w.ownsRow base e s v n xs) (hb : base' ≤ base) : w.ownsRow base' e s v n xs := by
  refine ⟨h.1, ?_⟩
  rcases h.2 with h2 | ⟨g, cap, cur, hv, hg, r⟩
  · exact .inl h2
  · exact .inr ⟨g, cap, cur, hv, by omega, r⟩

theorem below_after {a w w' : World} (h : Below a.heap.size a w) (hb : Below w.heap.size w w') : Below a.heap.size a w' := h.trans (hb.mono h.size)

/-- A slice written out with its cells. -/
theorem own_lit (w : World) (e : TypeId) (cs : Array Value) (n : Nat) (hn : cs.size = n) (hm : n ≤ maxLen) :
    (w.alloc (.cells cs e)).ownsRow w.heap.size e 1 (.slice (some ⟨w.heap.size, 0, none⟩) n n) n cs.toList := by
  have := World.ownsRow_lit (base := w.heap.size) (e := e) (size := 1) w cs n (Nat.le_refl _) hm (by omega)
  exact this

theorem byteCells_one (l : List UInt8) : ∀ u ∈ Lib.byteCells l, u.oneCell' = true := by
  intro u hu
  unfold Lib.byteCells at hu
  obtain ⟨b, _, rfl⟩ := List.mem_map.1 hu
  rfl

/-- The address of what the call owns, if there is something. -/
theorem own_addr {w : World} {base : Nat} {e : TypeId} {A : Option Addr} {n c : Nat} {xs : List Value} (h : w.ownsRow base e 1 (.slice A n c) n xs) (hn : 0 < n) :
    ∃ g, A = some ⟨g, 0, none⟩ ∧ ∀ j u, xs[j]? = some u → w.cell? ((⟨g, 0, none⟩ : Addr).add j) = some u := by
  rcases h.2 with ⟨_, h0⟩ | ⟨g, cap, cur, hv, hg, hh, r⟩
  · omega
  · have hA : A = some ⟨g, 0, none⟩ := by injection hv
    subst hA
    exact ⟨g, rfl, h.cells rfl⟩

/-- 'string(b)'. -/
theorem convert_bytes {w : World} {B : Nat} {A : Option Addr} {c : Nat} {l : List UInt8} (h : Sits w B A (Lib.byteCells l)) :
    (convert 49 9 (.slice A l.length c)).run Try.prog w = .ok (.string ⟨l.toArray⟩) w := by
  rcases Nat.eq_zero_or_pos l.length with h0 | h0
  · have : l = [] := List.eq_nil_of_length_eq_zero h0
    subst this
    rw [List.length_nil, run_convert_bytes_string w 49 9 5 A 0 c Try.underlying49 Try.underlying5 Try.underlying9]
    cases A with
    | none => simp [Conv.bytesToString]; rfl
    | some a => exact run_bytesToString w a 0 c [] (by simp [loadCells, loadCellsFrom])
  · obtain ⟨b, o, rfl, _, hc⟩ := h.open_ (by rw [Lib.byteCells_length]; exact h0)
    refine run_convert_bytes_back w 49 9 5 ⟨b, o, none⟩ c l Try.underlying49 Try.underlying5 Try.underlying9 (fun j hj => ?_)
    have e : (⟨b, o, none⟩ : Addr).add j = ⟨b, o + j, none⟩ := by
      unfold Addr.add
      split
      · rename_i h0; subst h0; rfl
      · rfl
    rw [e]
    refine hc j _ ?_
    unfold Lib.byteCells
    rw [List.getElem?_map, List.getElem?_eq_getElem hj]
    rfl

end Go.Proofs.Ytfdgmoakobjohaa

/- Part MemC. -/
namespace Go.Proofs.Ytfdgmoakobjohaa
open Go.RowKit
set_option linter.unusedVariables false

/-- '[]byte(s)': the new row holds s's bytes. -/
theorem sits_new (w : World) (s : ByteArray) (cap : Nat) :
    Sits (w.alloc (.cells (bytesRow s cap) 5 ((bytesRow s cap).size, (bytesRow s cap).size + 1))).drew (w.heap.size + 1) (some ⟨w.heap.size, 0, none⟩) (Lib.byteCells s.data.toList) := by
  intro hp
  refine ⟨w.heap.size, 0, rfl, by omega, fun j u hu => ?_⟩
  show (w.alloc _).cell? _ = _
  rw [World.cell?_alloc_mark, Nat.zero_add]
  have hj : j < s.data.size := by
    have := (List.getElem?_eq_some_iff.1 hu).1
    rw [Lib.byteCells_length] at this
    simpa using this
  rw [bytesRow_at s cap j hj, ← hu]
  unfold Lib.byteCells
  rw [List.getElem?_map, List.getElem?_eq_getElem (by simpa using hj)]
  simp

theorem alloc_drew_below (w : World) (o : Obj) : Below w.heap.size w (w.alloc o).drew := ((Below.refl _ w).alloc (Nat.le_refl _) _).drew

/-- 'x[:k]' within the capacity. -/
theorem cut_head (W : World) (A : Option Addr) (n c k : Nat) (hk : k ≤ c) :
    (Instr.slice 49 (.slice A n c) none (some (.int .i64 (k : Int))) none).run Try.prog W = .ok (.slice A k c) W := by
  have he : Try.prog.elem 49 = 5 := by kernel_rfl
  rw [run_slice_h W 49 A n c (by rw [he]; exact Try.underlying49) .i64 (k : Int) (by omega) (by omega)]
  rw [he, Try.sizeOf5]
  simp only [Result.andThen, sliced, Int.toNat_natCast, Nat.zero_mul, Nat.sub_zero]
  have e : (A.map fun x => x.add 0) = A := by
    cases A with
    | none => rfl
    | some a => rfl
  rw [e]
  split <;> rfl

/-- What is told of a text that was made right, for the calls behind. -/
theorem str_of (r : List UInt8) : ∃ s : ByteArray, (⟨r.toArray⟩ : ByteArray) = s ∧ s.data.toList = r ∧ s.size = r.length := ⟨_, rfl, rfl, rfl⟩

theorem sits_conv {w : World} {s : ByteArray} {r : List UInt8} (h : s.data.toList = r) :
    ∃ w2, (w.alloc (.cells (bytesRow s (grownCap w s.size 0 5)) 5 ((bytesRow s (grownCap w s.size 0 5)).size, (bytesRow s (grownCap w s.size 0 5)).size + 1))).drew = w2 ∧
      Sits w2 w2.heap.size (some ⟨w.heap.size, 0, none⟩) (Lib.byteCells r) ∧ Below w.heap.size w w2 := by
  refine ⟨_, rfl, ?_, alloc_drew_below w _⟩
  have := sits_new w s (grownCap w s.size 0 5)
  rw [h] at this
  simpa using this

theorem drop_extract (s : ByteArray) (pos : Nat) : (s.extract pos s.size).data.toList = s.data.toList.drop pos := by
  rw [Lib.extract_data]
  rw [List.take_of_length_le]
  rw [List.length_drop]
  have : s.data.toList.length = s.size := by simp
  omega

theorem take_extract (s : ByteArray) (n : Nat) : (s.extract 0 n).data.toList = s.data.toList.take n := by
  rw [Lib.extract_data]
  simp

theorem mid_extract (s : ByteArray) (a b : Nat) : (s.extract a b).data.toList = (s.data.toList.drop a).take (b - a) := by rw [Lib.extract_data]

theorem eq_lit (s : ByteArray) (l : List UInt8) : (l == s.toList) = decide (s.data.toList = l) := by
  rw [Lib.toList_data]
  by_cases h : s.data.toList = l
  · rw [h]; simp
  · rw [decide_eq_false h, beq_eq_false_iff_ne]
    exact fun e => h e.symm

theorem str_list (t : ByteArray) : t.size = t.data.toList.length := by simp

end Go.Proofs.Ytfdgmoakobjohaa
