/- Parts of the proof, in build order: Mem MemB Glb TbM MathU TreeM Norm MathV MathW NamM. -/
import Derived.Test.YthmnnalamaponaaGreatRows
import Derived.WalkKit
import Derived.WalkSpells
import Derived.WalkLawsBesides
import Derived.Lib.Hide
import Derived.Deep.QuietTactic
import Derived.BigQuiet
import Derived.Lib.UnsafeStr
import Derived.Laws.IdiomStrings
import Derived.Lib.RuneBytes
import Derived.Lib.RuneCount
import Derived.Lib.Strings

/- Part Mem. -/
namespace Go.Proofs.YthmnnalamaponaaGreat
open Go.RowKit
set_option linter.unusedVariables false

theorem ret_int {k : IntKind} {a b : Int} (h : a = b) : Ending.returned (.int k a) = .returned (.int k b) := by rw [h]

/-- The slice with address A holds the cells xs; they lie below block B. -/
def Sits (w : World) (B : Nat) (A : Option Addr) (xs : List Value) : Prop :=
  0 < xs.length → ∃ b o, A = some ⟨b, o, none⟩ ∧ b < B ∧ ∀ j u, xs[j]? = some u → w.cell? ⟨b, o + j, none⟩ = some u

theorem Sits.nil (w : World) (B : Nat) (A : Option Addr) : Sits w B A [] := fun h => absurd h (by simp)

theorem Sits.open_ {w : World} {B : Nat} {A : Option Addr} {xs : List Value} (h : Sits w B A xs) (hx : 0 < xs.length) :
    ∃ b o, A = some ⟨b, o, none⟩ ∧ b < B ∧ ∀ j u, xs[j]? = some u → w.cell? ⟨b, o + j, none⟩ = some u := h hx

theorem Sits.keep {w w' : World} {B : Nat} {A : Option Addr} {xs : List Value} (h : Sits w B A xs) (hk : ∀ b j, b < B → w'.cell? ⟨b, j, none⟩ = w.cell? ⟨b, j, none⟩) : Sits w' B A xs := by
  intro hx
  obtain ⟨b, o, hA, hb, hc⟩ := h hx
  exact ⟨b, o, hA, hb, fun j u hu => (hk b _ hb).trans (hc j u hu)⟩

theorem Sits.below {w w' : World} {B : Nat} {A : Option Addr} {xs : List Value} (h : Sits w B A xs) (hb : Below B w w') : Sits w' B A xs :=
  h.keep fun b j hbB => hb.cell (p := ⟨b, j, none⟩) hbB

theorem Sits.more {w : World} {B B' : Nat} {A : Option Addr} {xs : List Value} (h : Sits w B A xs) (hB : B ≤ B') : Sits w B' A xs := by
  intro hx
  obtain ⟨b, o, hA, hb, hc⟩ := h hx
  exact ⟨b, o, hA, by omega, hc⟩

theorem Sits.take {w : World} {B : Nat} {A : Option Addr} {xs : List Value} (h : Sits w B A xs) (n : Nat) : Sits w B A (xs.take n) := by
  intro hx
  obtain ⟨b, o, hA, hb, hc⟩ := h (by rw [List.length_take] at hx; omega)
  refine ⟨b, o, hA, hb, fun j u hu => hc j u ?_⟩
  rw [List.getElem?_take] at hu
  split at hu
  · exact hu
  · cases hu

/-- What the call owns can be read. -/
theorem Sits.own {w : World} {base : Nat} {e : TypeId} {A : Option Addr} {n c : Nat} {xs : List Value} (h : w.ownsRow base e 1 (.slice A n c) n xs) : Sits w w.heap.size A xs := by
  intro hx
  have hn : 0 < n := by have := h.1; omega
  rcases h.2 with ⟨_, h0⟩ | ⟨g, cap, cur, hv, hg, hh, _⟩
  · omega
  · have hA : A = some ⟨g, 0, none⟩ := by injection hv
    have hc : c = cap := by injection hv
    subst hA
    subst hc
    refine ⟨g, 0, rfl, (Array.getElem?_eq_some_iff.1 hh).1, fun j u hu => ?_⟩
    have hj : j < n := by
      have h1 := (List.getElem?_eq_some_iff.1 hu).1
      have := h.1
      omega
    rw [Nat.zero_add, h.cellAt j (by omega)]
    exact hu

theorem own_shape {w : World} {base : Nat} {e : TypeId} {v : Value} {n : Nat} {xs : List Value} (h : w.ownsRow base e 1 v n xs) : ∃ A c, v = .slice A n c ∧ n ≤ c := by
  rcases h.2 with ⟨hv, h0⟩ | ⟨g, cap, cur, hv, _, _, hn, _⟩
  · subst h0
    exact ⟨none, 0, hv, Nat.le_refl _⟩
  · exact ⟨some ⟨g, 0, none⟩, cap, hv, hn⟩

/-- A new cell, at its address. -/
theorem new_one (w : World) (t : TypeId) (u : Value) : ∀ j x, [u][j]? = some x → (w.alloc (.cells #[u] t)).cell? ((⟨w.heap.size, 0, none⟩ : Addr).add j) = some x := by
  intro j x hj
  match j, hj with
  | 0, hj =>
    simp at hj
    subst hj
    simp [Addr.add]

theorem byteCells_at {l : List UInt8} {j : Nat} (h : j < l.length) : (Lib.byteCells l)[j]? = some (.int .u8 (l.getD j 0).toNat) := by
  unfold Lib.byteCells
  rw [List.getElem?_map, List.getElem?_eq_getElem h]
  simp [List.getD, h]

theorem add_zero_addr (b j : Nat) : (⟨b, 0, none⟩ : Addr).add j = ⟨b, j, none⟩ := by
  unfold Addr.add
  split
  · rename_i h0; subst h0; rfl
  · simp

theorem quiet_here {P : Program} {f : FuncId} {args : Array Value} {w : World} {n : Nat} {v : Value}
    (h : Calls P f args (w.drewN n) fun e w' => e = .returned v ∧ w.drewN n = w') : Calls P f args (w.drewN n) fun e w'' => e = .returned v ∧ ∃ m, w'' = w.drewN m :=
  h.mono fun _ _ ⟨he, hm⟩ => ⟨he, n, hm.symm⟩

theorem at_data (s : ByteArray) (k : Nat) (h : k < s.size) : s.data.toList[k]'(by simpa using h) = s[k] := by
  rw [Array.getElem_toList]
  rfl

end Go.Proofs.YthmnnalamaponaaGreat

/- Part MemB. -/
namespace Go.Proofs.YthmnnalamaponaaGreat
open Go.RowKit
set_option linter.unusedVariables false

theorem own_below {w w' : World} {base : Nat} {e : TypeId} {s : Nat} {v : Value} {n : Nat} {xs : List Value} (h : w.ownsRow base e s v n xs) (hb : Below w.heap.size w w') : w'.ownsRow base e s v n xs := by
  refine ⟨h.1, ?_⟩
  rcases h.2 with h2 | ⟨g, cap, cur, hv, hg, hh, r⟩
  · exact .inl h2
  · exact .inr ⟨g, cap, cur, hv, hg, (hb.block g (Array.getElem?_eq_some_iff.1 hh).1).trans hh, r⟩

theorem own_more {w : World} {base base' : Nat} {e : TypeId} {s : Nat} {v : Value} {n : Nat} {xs : List Value} (h : w.ownsRow base e s v n xs) (hb : base' ≤ base) : w.ownsRow base' e s v n xs := by
  refine ⟨h.1, ?_⟩
  rcases h.2 with h2 | ⟨g, cap, cur, hv, hg, r⟩
  · exact .inl h2
  · exact .inr ⟨g, cap, cur, hv, by omega, r⟩

theorem below_after {a w w' : World} (h : Below a.heap.size a w) (hb : Below w.heap.size w w') : Below a.heap.size a w' := h.trans (hb.mono h.size)

/-- A slice written out with its cells. -/
theorem own_lit (w : World) (e : TypeId) (cs : Array Value) (n : Nat) (hn : cs.size = n) (hm : n ≤ maxLen) :
    (w.alloc (.cells cs e)).ownsRow w.heap.size e 1 (.slice (some ⟨w.heap.size, 0, none⟩) n n) n cs.toList := by
  have := World.ownsRow_lit (base := w.heap.size) (e := e) (size := 1) w cs n (Nat.le_refl _) hm (by omega)
  exact this

theorem byteCells_one (l : List UInt8) : ∀ u ∈ Lib.byteCells l, u.oneCell' = true := by
  intro u hu
  unfold Lib.byteCells at hu
  obtain ⟨b, _, rfl⟩ := List.mem_map.1 hu
  rfl

/-- The address of what the call owns, if there is something. -/
theorem own_addr {w : World} {base : Nat} {e : TypeId} {A : Option Addr} {n c : Nat} {xs : List Value} (h : w.ownsRow base e 1 (.slice A n c) n xs) (hn : 0 < n) :
    ∃ g, A = some ⟨g, 0, none⟩ ∧ ∀ j u, xs[j]? = some u → w.cell? ((⟨g, 0, none⟩ : Addr).add j) = some u := by
  rcases h.2 with ⟨_, h0⟩ | ⟨g, cap, cur, hv, hg, hh, r⟩
  · omega
  · have hA : A = some ⟨g, 0, none⟩ := by injection hv
    subst hA
    exact ⟨g, rfl, h.cells rfl⟩

/-- 'string(b)'. -/
theorem convert_bytes {w : World} {B : Nat} {A : Option Addr} {c : Nat} {l : List UInt8} (h : Sits w B A (Lib.byteCells l)) :
    (convert 27 9 (.slice A l.length c)).run Tryz.prog w = .ok (.string ⟨l.toArray⟩) w := by
  rcases Nat.eq_zero_or_pos l.length with h0 | h0
  · have : l = [] := List.eq_nil_of_length_eq_zero h0
    subst this
    rw [List.length_nil, run_convert_bytes_string w 27 9 5 A 0 c Tryz.underlying27 Tryz.underlying5 Tryz.underlying9]
    cases A with
    | none => simp [Conv.bytesToString]; rfl
    | some a => exact run_bytesToString w a 0 c [] (by simp [loadCells, loadCellsFrom])
  · obtain ⟨b, o, rfl, _, hc⟩ := h.open_ (by rw [Lib.byteCells_length]; exact h0)
    refine run_convert_bytes_back w 27 9 5 ⟨b, o, none⟩ c l Tryz.underlying27 Tryz.underlying5 Tryz.underlying9 (fun j hj => ?_)
    have e : (⟨b, o, none⟩ : Addr).add j = ⟨b, o + j, none⟩ := by
      unfold Addr.add
      split
      · rename_i h0; subst h0; rfl
      · rfl
    rw [e]
    refine hc j _ ?_
    unfold Lib.byteCells
    rw [List.getElem?_map, List.getElem?_eq_getElem hj]
    rfl

end Go.Proofs.YthmnnalamaponaaGreat

/- Part Glb. -/
namespace Go.Proofs.YthmnnalamaponaaGreat
open Go.RowKit
set_option linter.unusedVariables false

/-- The library's variable holds some number. -/
def Glob (w : World) : Prop := ∃ m, w.cell? ⟨0, 0, none⟩ = some (.int .i64 m)
theorem Glob.below {w w' : World} (h : Glob w) (hb : Below w.heap.size w w') : Glob w' := by
  obtain ⟨m, hm⟩ := h
  refine ⟨m, (hb.cell (p := ⟨0, 0, none⟩) ?_).trans hm⟩
  refine Decidable.byContradiction fun hn => ?_
  have : w.heap[0]? = none := Array.getElem?_eq_none (by have : ¬ 0 < w.heap.size := hn; omega)
  rw [World.cell?, this] at hm
  cases hm

end Go.Proofs.YthmnnalamaponaaGreat

/- Part TbM. -/
namespace Go.Proofs.YthmnnalamaponaaGreat

/-- Bytes as a text. -/
def tB (l : List UInt8) : ByteArray := ⟨l.toArray⟩
theorem tB_list (l : List UInt8) : (tB l).data.toList = l := by simp [tB]
theorem tB_of (s : ByteArray) : tB s.data.toList = s := by
  apply ByteArray.ext
  simp [tB]
theorem tB_eq {s : ByteArray} {l : List UInt8} (h : s.data.toList = l) : s = tB l := by rw [← h, tB_of]
theorem tB_inj {a b : List UInt8} (h : tB a = tB b) : a = b := by
  have := congrArg (fun s : ByteArray => s.data.toList) h
  simpa [tB] using this
theorem bytes_inj {a b : ByteArray} (h : a.data.toList = b.data.toList) : a = b := by rw [tB_eq h, tB_of]
theorem tB_app (a b : List UInt8) : tB (a ++ b) = tB a ++ tB b := by
  apply ByteArray.ext
  simp [tB, ByteArray.data_append]
theorem tB_size (l : List UInt8) : (tB l).size = l.length := by simp [tB, ByteArray.size]

end Go.Proofs.YthmnnalamaponaaGreat

/- Part MathU. -/
namespace Go.Proofs.YthmnnalamaponaaGreat
set_option linter.unusedVariables false

/-- The k-th byte, or 0. -/
def byt (l : List UInt8) (k : Nat) : Nat := (l.getD k 0).toNat
/-- Is there a k-th byte, and does it go on? -/
def cont (l : List UInt8) (k : Nat) : Bool := decide (k < l.length) && byt l k / 64 == 2

/-- The character with which bytes begin, and how many bytes it has. -/
def dec (l : List UInt8) : Nat × Nat :=
  if byt l 0 < 128 then (byt l 0, 1)
  else if byt l 0 / 32 = 6 ∧ cont l 1 = true then
    if 128 ≤ byt l 0 % 32 * 64 + byt l 1 % 64 then (byt l 0 % 32 * 64 + byt l 1 % 64, 2) else (65533, 1)
  else if byt l 0 / 16 = 14 ∧ cont l 1 = true ∧ cont l 2 = true then
    if 2048 ≤ byt l 0 % 16 * 4096 + byt l 1 % 64 * 64 + byt l 2 % 64 ∧ ¬ (55296 ≤ byt l 0 % 16 * 4096 + byt l 1 % 64 * 64 + byt l 2 % 64 ∧ byt l 0 % 16 * 4096 + byt l 1 % 64 * 64 + byt l 2 % 64 ≤ 57343) then (byt l 0 % 16 * 4096 + byt l 1 % 64 * 64 + byt l 2 % 64, 3) else (65533, 1)
  else if byt l 0 / 8 = 30 ∧ cont l 1 = true ∧ cont l 2 = true ∧ cont l 3 = true then
    if 65536 ≤ byt l 0 % 8 * 262144 + byt l 1 % 64 * 4096 + byt l 2 % 64 * 64 + byt l 3 % 64 ∧ byt l 0 % 8 * 262144 + byt l 1 % 64 * 4096 + byt l 2 % 64 * 64 + byt l 3 % 64 ≤ 1114111 then (byt l 0 % 8 * 262144 + byt l 1 % 64 * 4096 + byt l 2 % 64 * 64 + byt l 3 % 64, 4) else (65533, 1)
  else (65533, 1)

theorem byt_lt (l : List UInt8) (k : Nat) : byt l k < 256 := by unfold byt; exact UInt8.toNat_lt _

theorem get_byt (s : ByteArray) (i k : Nat) : (s.get! (i + k)).toNat = byt (s.data.toList.drop i) k := by
  unfold byt
  have h : s.get! (i + k) = s.data[i + k]! := rfl
  rw [h, List.getD_eq_getElem?_getD, List.getElem?_drop, Array.getElem?_toList]
  rw [getElem!_def]
  cases s.data[i + k]? <;> rfl

theorem cont_eq (s : ByteArray) (i k : Nat) : (decide (i + k < s.size) && byt (s.data.toList.drop i) k / 64 == 2) = cont (s.data.toList.drop i) k := by
  unfold cont
  congr 1
  rw [decide_eq_decide, List.length_drop]
  have : s.data.toList.length = s.size := by simp
  omega

theorem valid_nat (c : Nat) : Utf8.valid (c : Int) = decide (c < 55296 ∨ (57344 ≤ c ∧ c ≤ 1114111)) := by
  unfold Utf8.valid
  rw [Bool.eq_iff_iff]
  simp
  omega

theorem decode_dec (s : ByteArray) (i : Nat) : Utf8.decode s i = dec (s.data.toList.drop i) := by
  have g0 := get_byt s i 0
  have g1 := get_byt s i 1
  have g2 := get_byt s i 2
  have g3 := get_byt s i 3
  have c1 := cont_eq s i 1
  have c2 := cont_eq s i 2
  have c3 := cont_eq s i 3
  have b0 := byt_lt (s.data.toList.drop i) 0
  have b1 := byt_lt (s.data.toList.drop i) 1
  have b2 := byt_lt (s.data.toList.drop i) 2
  have b3 := byt_lt (s.data.toList.drop i) 3
  unfold Utf8.decode dec
  simp only [g0, g1, g2, g3, valid_nat, Utf8.runeError, ge_iff_le]
  simp only [c1, c2, c3]
  simp only [Bool.and_eq_true, beq_iff_eq, decide_eq_true_eq]
  generalize byt (s.data.toList.drop i) 0 = x0 at *
  generalize byt (s.data.toList.drop i) 1 = x1 at *
  generalize byt (s.data.toList.drop i) 2 = x2 at *
  generalize byt (s.data.toList.drop i) 3 = x3 at *
  generalize cont (s.data.toList.drop i) 1 = k1 at *
  generalize cont (s.data.toList.drop i) 2 = k2 at *
  generalize cont (s.data.toList.drop i) 3 = k3 at *
  by_cases h0 : x0 < 128
  · rw [if_pos h0, if_pos h0]
  rw [if_neg h0, if_neg h0]
  by_cases h1 : x0 / 32 = 6 ∧ k1 = true
  · rw [if_pos h1, if_pos h1]
  rw [if_neg h1, if_neg h1]
  by_cases h2 : x0 / 16 = 14 ∧ k1 = true ∧ k2 = true
  · rw [if_pos ⟨⟨h2.1, h2.2.1⟩, h2.2.2⟩, if_pos h2]
    by_cases h : 2048 ≤ x0 % 16 * 4096 + x1 % 64 * 64 + x2 % 64 ∧ ¬ (55296 ≤ x0 % 16 * 4096 + x1 % 64 * 64 + x2 % 64 ∧ x0 % 16 * 4096 + x1 % 64 * 64 + x2 % 64 ≤ 57343)
    · rw [if_pos h, if_pos (by omega)]
    · rw [if_neg h, if_neg (by omega)]
  rw [if_neg (fun h => h2 ⟨h.1.1, h.1.2, h.2⟩), if_neg h2]
  by_cases h3 : x0 / 8 = 30 ∧ k1 = true ∧ k2 = true ∧ k3 = true
  · rw [if_pos ⟨⟨⟨h3.1, h3.2.1⟩, h3.2.2.1⟩, h3.2.2.2⟩, if_pos h3]
    by_cases h : 65536 ≤ x0 % 8 * 262144 + x1 % 64 * 4096 + x2 % 64 * 64 + x3 % 64 ∧ x0 % 8 * 262144 + x1 % 64 * 4096 + x2 % 64 * 64 + x3 % 64 ≤ 1114111
    · rw [if_pos h, if_pos (by omega)]
    · rw [if_neg h, if_neg (by omega)]
  rw [if_neg (fun h => h3 ⟨h.1.1.1, h.1.1.2, h.1.2, h.2⟩), if_neg h3]

/-- May a number be a character? -/
def okR (r : Int) : Prop := (0 ≤ r ∧ r < 55296) ∨ (57343 < r ∧ r ≤ 1114111)

theorem byt_len {l : List UInt8} {k : Nat} (h : cont l k = true) : k < l.length := by
  unfold cont at h
  simp at h
  exact h.1

theorem dec_width {l : List UInt8} (h : 0 < l.length) : 1 ≤ (dec l).2 ∧ (dec l).2 ≤ l.length := by
  unfold dec
  split
  · exact ⟨by simp, by simp; omega⟩
  split
  · rename_i h1
    have := byt_len h1.2
    split
    · exact ⟨by simp, by simp; omega⟩
    · exact ⟨by simp, by simp; omega⟩
  split
  · rename_i h1
    have := byt_len h1.2.2
    split
    · exact ⟨by simp, by simp; omega⟩
    · exact ⟨by simp, by simp; omega⟩
  split
  · rename_i h1
    have := byt_len h1.2.2.2
    split
    · exact ⟨by simp, by simp; omega⟩
    · exact ⟨by simp, by simp; omega⟩
  exact ⟨by simp, by simp; omega⟩

theorem dec_ok (l : List UInt8) : okR (dec l).1 := by
  have b0 := byt_lt l 0
  have b1 := byt_lt l 1
  unfold dec okR
  split
  · simp; omega
  split
  · split
    · simp; omega
    · simp
  split
  · split
    · simp; omega
    · simp
  split
  · split
    · simp; omega
    · simp
  simp

/-- The characters of bytes, at most so many. -/
def runesF : Nat → List UInt8 → List Int
  | 0, _ => []
  | f + 1, l => if l.length = 0 then [] else ((dec l).1 : Int) :: runesF f (l.drop (dec l).2)
/-- The characters of bytes. -/
def runes (l : List UInt8) : List Int := runesF l.length l

theorem runesF_fuel : ∀ (f g : Nat) (l : List UInt8), l.length ≤ f → l.length ≤ g → runesF f l = runesF g l
  | 0, 0, l, _, _ => rfl
  | 0, g + 1, l, h, _ => by
    have : l.length = 0 := by omega
    simp [runesF, this]
  | f + 1, 0, l, _, h => by
    have : l.length = 0 := by omega
    simp [runesF, this]
  | f + 1, g + 1, l, hf, hg => by
    unfold runesF
    by_cases h0 : l.length = 0
    · rw [if_pos h0, if_pos h0]
    · have hw := dec_width (l := l) (by omega)
      rw [if_neg h0, if_neg h0, runesF_fuel f g _ (by rw [List.length_drop]; omega) (by rw [List.length_drop]; omega)]

theorem runes_nil : runes [] = [] := rfl
theorem runes_step {l : List UInt8} (h : 0 < l.length) : runes l = ((dec l).1 : Int) :: runes (l.drop (dec l).2) := by
  have hw := dec_width h
  obtain ⟨m, hm⟩ : ∃ m, l.length = m + 1 := ⟨l.length - 1, by omega⟩
  unfold runes
  rw [hm]
  conv => lhs; unfold runesF
  rw [if_neg (by omega), runesF_fuel m _ _ (by rw [List.length_drop]; omega) (Nat.le_refl _)]

theorem runes_ok : ∀ (n : Nat) (l : List UInt8), l.length ≤ n → ∀ r ∈ runes l, okR r
  | 0, l, h => by
    have : l = [] := List.eq_nil_of_length_eq_zero (by omega)
    subst this
    intro r hr
    cases hr
  | n + 1, l, h => by
    intro r hr
    by_cases h0 : l.length = 0
    · have : l = [] := List.eq_nil_of_length_eq_zero h0
      subst this
      cases hr
    · have hw := dec_width (l := l) (by omega)
      rw [runes_step (by omega)] at hr
      rcases List.mem_cons.1 hr with rfl | hr
      · exact dec_ok l
      · exact runes_ok n _ (by rw [List.length_drop]; omega) r hr

theorem runes_len : ∀ (n : Nat) (l : List UInt8), l.length ≤ n → (runes l).length ≤ l.length
  | 0, l, h => by
    have : l = [] := List.eq_nil_of_length_eq_zero (by omega)
    subst this
    simp [runes_nil]
  | n + 1, l, h => by
    by_cases h0 : l.length = 0
    · have : l = [] := List.eq_nil_of_length_eq_zero h0
      subst this
      simp [runes_nil]
    · have hw := dec_width (l := l) (by omega)
      rw [runes_step (by omega)]
      have := runes_len n (l.drop (dec l).2) (by rw [List.length_drop]; omega)
      rw [List.length_drop] at this
      simp
      omega

/-- The bytes of characters. -/
def enc (l : List Int) : List UInt8 := l.flatMap Lib.encodeRune

theorem enc_nil : enc [] = [] := rfl
theorem enc_cons (r : Int) (l : List Int) : enc (r :: l) = Lib.encodeRune r ++ enc l := by simp [enc]
theorem enc_append (a b : List Int) : enc (a ++ b) = enc a ++ enc b := by simp [enc]

theorem dec_enc {r : Int} (h : okR r) (t : List UInt8) : dec (Lib.encodeRune r ++ t) = (r.toNat, (Lib.encodeRune r).length) := by
  unfold okR at h
  have hb : ∀ x : Int, 0 ≤ x → x < 256 → x.toNat.toUInt8.toNat = x.toNat := by
    intro x h0 h1
    simp
    omega
  by_cases h1 : r ≤ 127
  · have e : Lib.encodeRune r = [r.toNat.toUInt8] := by unfold Lib.encodeRune; rw [Lib.encodeRuneZ_one (by omega) h1]; rfl
    rw [e]
    have b0 : byt ([r.toNat.toUInt8] ++ t) 0 = r.toNat := by
      show r.toNat.toUInt8.toNat = _
      exact hb r (by omega) (by omega)
    unfold dec
    rw [b0, if_pos (by omega)]
    rfl
  by_cases h2 : r ≤ 2047
  · have e : Lib.encodeRune r = [(192 + r / 64).toNat.toUInt8, (128 + r % 64).toNat.toUInt8] := by unfold Lib.encodeRune; rw [Lib.encodeRuneZ_two (by omega) h2]; rfl
    rw [e]
    have b0 : byt ([(192 + r / 64).toNat.toUInt8, (128 + r % 64).toNat.toUInt8] ++ t) 0 = (192 + r / 64).toNat := hb _ (by omega) (by omega)
    have b1 : byt ([(192 + r / 64).toNat.toUInt8, (128 + r % 64).toNat.toUInt8] ++ t) 1 = (128 + r % 64).toNat := hb _ (by omega) (by omega)
    have c1 : cont ([(192 + r / 64).toNat.toUInt8, (128 + r % 64).toNat.toUInt8] ++ t) 1 = true := by
      unfold cont
      rw [b1]
      simp
      omega
    unfold dec
    rw [b0, b1, c1, if_neg (by omega), if_pos ⟨by omega, rfl⟩, if_pos (by omega)]
    simp
    omega
  by_cases h3 : r ≤ 65535
  · have e : Lib.encodeRune r = [(224 + r / 4096).toNat.toUInt8, (128 + r / 64 % 64).toNat.toUInt8, (128 + r % 64).toNat.toUInt8] := by unfold Lib.encodeRune; rw [Lib.encodeRuneZ_three (by omega)]; rfl
    rw [e]
    have b0 : byt ([(224 + r / 4096).toNat.toUInt8, (128 + r / 64 % 64).toNat.toUInt8, (128 + r % 64).toNat.toUInt8] ++ t) 0 = (224 + r / 4096).toNat := hb _ (by omega) (by omega)
    have b1 : byt ([(224 + r / 4096).toNat.toUInt8, (128 + r / 64 % 64).toNat.toUInt8, (128 + r % 64).toNat.toUInt8] ++ t) 1 = (128 + r / 64 % 64).toNat := hb _ (by omega) (by omega)
    have b2 : byt ([(224 + r / 4096).toNat.toUInt8, (128 + r / 64 % 64).toNat.toUInt8, (128 + r % 64).toNat.toUInt8] ++ t) 2 = (128 + r % 64).toNat := hb _ (by omega) (by omega)
    have c1 : cont ([(224 + r / 4096).toNat.toUInt8, (128 + r / 64 % 64).toNat.toUInt8, (128 + r % 64).toNat.toUInt8] ++ t) 1 = true := by
      unfold cont
      rw [b1]
      simp
      omega
    have c2 : cont ([(224 + r / 4096).toNat.toUInt8, (128 + r / 64 % 64).toNat.toUInt8, (128 + r % 64).toNat.toUInt8] ++ t) 2 = true := by
      unfold cont
      rw [b2]
      simp
      omega
    unfold dec
    rw [b0, b1, b2, c1, c2, if_neg (by omega), if_neg (by omega), if_pos ⟨by omega, rfl, rfl⟩, if_pos (by omega)]
    simp
    omega
  · have e : Lib.encodeRune r = [(240 + r / 262144).toNat.toUInt8, (128 + r / 4096 % 64).toNat.toUInt8, (128 + r / 64 % 64).toNat.toUInt8, (128 + r % 64).toNat.toUInt8] := by unfold Lib.encodeRune; rw [Lib.encodeRuneZ_four (by omega) (by omega)]; rfl
    rw [e]
    have b0 : byt ([(240 + r / 262144).toNat.toUInt8, (128 + r / 4096 % 64).toNat.toUInt8, (128 + r / 64 % 64).toNat.toUInt8, (128 + r % 64).toNat.toUInt8] ++ t) 0 = (240 + r / 262144).toNat := hb _ (by omega) (by omega)
    have b1 : byt ([(240 + r / 262144).toNat.toUInt8, (128 + r / 4096 % 64).toNat.toUInt8, (128 + r / 64 % 64).toNat.toUInt8, (128 + r % 64).toNat.toUInt8] ++ t) 1 = (128 + r / 4096 % 64).toNat := hb _ (by omega) (by omega)
    have b2 : byt ([(240 + r / 262144).toNat.toUInt8, (128 + r / 4096 % 64).toNat.toUInt8, (128 + r / 64 % 64).toNat.toUInt8, (128 + r % 64).toNat.toUInt8] ++ t) 2 = (128 + r / 64 % 64).toNat := hb _ (by omega) (by omega)
    have b3 : byt ([(240 + r / 262144).toNat.toUInt8, (128 + r / 4096 % 64).toNat.toUInt8, (128 + r / 64 % 64).toNat.toUInt8, (128 + r % 64).toNat.toUInt8] ++ t) 3 = (128 + r % 64).toNat := hb _ (by omega) (by omega)
    have c1 : cont ([(240 + r / 262144).toNat.toUInt8, (128 + r / 4096 % 64).toNat.toUInt8, (128 + r / 64 % 64).toNat.toUInt8, (128 + r % 64).toNat.toUInt8] ++ t) 1 = true := by
      unfold cont
      rw [b1]
      simp
      omega
    have c2 : cont ([(240 + r / 262144).toNat.toUInt8, (128 + r / 4096 % 64).toNat.toUInt8, (128 + r / 64 % 64).toNat.toUInt8, (128 + r % 64).toNat.toUInt8] ++ t) 2 = true := by
      unfold cont
      rw [b2]
      simp
      omega
    have c3 : cont ([(240 + r / 262144).toNat.toUInt8, (128 + r / 4096 % 64).toNat.toUInt8, (128 + r / 64 % 64).toNat.toUInt8, (128 + r % 64).toNat.toUInt8] ++ t) 3 = true := by
      unfold cont
      rw [b3]
      simp
      omega
    unfold dec
    rw [b0, b1, b2, b3, c1, c2, c3, if_neg (by omega), if_neg (by omega), if_neg (by omega), if_pos ⟨by omega, rfl, rfl, rfl⟩, if_pos (by omega)]
    simp
    omega

theorem runes_enc : ∀ l : List Int, (∀ r ∈ l, okR r) → runes (enc l) = l
  | [], _ => rfl
  | r :: l, h => by
    have hr := h r (by simp)
    have e := dec_enc hr (enc l)
    have hn : 0 ≤ r := by unfold okR at hr; omega
    rw [enc_cons, runes_step (by have := (Lib.encodeRuneZ_length r).1; simp [Lib.encodeRune]; omega), e]
    simp only [List.drop_left]
    rw [runes_enc l (fun x hx => h x (by simp [hx])), Int.toNat_of_nonneg hn]

/-- The characters made right; 'ahead': the one ahead of them. -/
def norm : Int → List Int → List Int
  | _, [] => []
  | a, r :: l => (if r = 13 then [10] else if r = 10 ∧ a = 13 then [] else if r = 0 then [65533] else [r]) ++ norm r l

/-- Is a character one that may stand in a right text? -/
def okN (r : Int) : Prop := okR r ∧ r ≠ 0 ∧ r ≠ 13

theorem norm_ok : ∀ (l : List Int) (a : Int), (∀ r ∈ l, okR r) → ∀ r ∈ norm a l, okN r
  | [], a, h => by simp [norm]
  | x :: l, a, h => by
    intro r hr
    unfold norm at hr
    rcases List.mem_append.1 hr with h1 | h1
    · have hx := h x (by simp)
      split at h1
      · simp at h1; subst h1; exact ⟨by unfold okR; omega, by omega, by omega⟩
      · split at h1
        · cases h1
        · split at h1
          · simp at h1; subst h1; exact ⟨by unfold okR; omega, by omega, by omega⟩
          · simp at h1; subst h1; exact ⟨hx, by assumption, by assumption⟩
    · exact norm_ok l x (fun y hy => h y (by simp [hy])) r h1

theorem norm_same : ∀ (l : List Int) (a : Int), a ≠ 13 → (∀ r ∈ l, okN r) → norm a l = l
  | [], a, _, _ => rfl
  | x :: l, a, ha, h => by
    have hx := h x (by simp)
    unfold norm
    rw [if_neg hx.2.2, if_neg (fun e => ha e.2), if_neg hx.2.1, norm_same l x hx.2.2 (fun y hy => h y (by simp [hy]))]
    rfl

/-- Bytes made right. -/
def right (l : List UInt8) : List UInt8 := enc (norm 0 (runes l))

theorem right_right (l : List UInt8) : right (right l) = right l := by
  have h := norm_ok (runes l) 0 (runes_ok _ l (Nat.le_refl _))
  unfold right
  rw [runes_enc _ (fun r hr => (h r hr).1), norm_same _ 0 (by omega) h]

theorem enc_len : ∀ l : List Int, (enc l).length ≤ 4 * l.length
  | [] => by simp [enc]
  | r :: l => by
    have := (Lib.encodeRuneZ_length r).2
    have ih := enc_len l
    rw [enc_cons, List.length_append, List.length_cons]
    have h : (Lib.encodeRune r).length = (Lib.encodeRuneZ r).length := by simp [Lib.encodeRune]
    omega

/-- Numbers that an int32 may have. -/
def i32s (l : List Int) : Prop := ∀ r ∈ l, -2147483648 ≤ r ∧ r ≤ 2147483647

theorem i32s_at {l : List Int} (h : i32s l) {k : Nat} {x : Int} (hx : l[k]? = some x) : -2147483648 ≤ x ∧ x ≤ 2147483647 := h x (List.mem_of_getElem? hx)

theorem drop_at {l : List Int} {k : Nat} {x : Int} (hx : l[k]? = some x) : l.drop k = x :: l.drop (k + 1) := by
  have hk := (List.getElem?_eq_some_iff.1 hx).1
  rw [List.drop_eq_getElem_cons hk]
  congr 1
  exact (List.getElem?_eq_some_iff.1 hx).2

theorem norm_len : ∀ (l : List Int) (a : Int), (norm a l).length ≤ l.length
  | [], a => by simp [norm]
  | r :: l, a => by
    have ih := norm_len l r
    unfold norm
    rw [List.length_append, List.length_cons]
    split
    · simp; omega
    · split
      · simp; omega
      · split
        · simp; omega
        · simp; omega

end Go.Proofs.YthmnnalamaponaaGreat

/- Part TreeM. -/
namespace Go.Proofs.YthmnnalamaponaaGreat
set_option linter.unusedVariables false

/-- A node: its kind, name, attributes, text, kids. -/
inductive Nd where
  | mk (kind : Int) (name : ByteArray) (attrs : List (ByteArray × ByteArray)) (text : ByteArray) (kids : List Nd)

def Nd.kind : Nd → Int | .mk k _ _ _ _ => k
def Nd.name : Nd → ByteArray | .mk _ n _ _ _ => n
def Nd.attrs : Nd → List (ByteArray × ByteArray) | .mk _ _ a _ _ => a
def Nd.text : Nd → ByteArray | .mk _ _ _ t _ => t
def Nd.kids : Nd → List Nd | .mk _ _ _ _ k => k
theorem Nd.eta (n : Nd) : Nd.mk n.kind n.name n.attrs n.text n.kids = n := by cases n; rfl

/-! ### sizes -/
/-- How much attributes take: 10 for each, and their bytes. -/
def szA : List (ByteArray × ByteArray) → Nat
  | [] => 0
  | a :: l => 10 + a.1.size + a.2.size + szA l
mutual
/-- How much a node takes: 10, its bytes, its attributes, its kids. -/
def szN : Nd → Nat
  | .mk _ n a t k => 10 + n.size + t.size + szA a + szL k
def szL : List Nd → Nat
  | [] => 0
  | n :: l => szN n + szL l
end

theorem szN_eq (n : Nd) : szN n = 10 + n.name.size + n.text.size + szA n.attrs + szL n.kids := by cases n; simp [szN, Nd.name, Nd.text, Nd.attrs, Nd.kids]
theorem szL_cons (n : Nd) (l : List Nd) : szL (n :: l) = szN n + szL l := by simp [szL]
theorem szL_nil : szL [] = 0 := by simp [szL]
theorem szL_append : ∀ (a b : List Nd), szL (a ++ b) = szL a + szL b
  | [], b => by simp [szL]
  | x :: a, b => by rw [List.cons_append, szL_cons, szL_cons, szL_append a b]; omega
theorem szA_append : ∀ (a b : List (ByteArray × ByteArray)), szA (a ++ b) = szA a + szA b
  | [], b => by simp [szA]
  | x :: a, b => by rw [List.cons_append, szA, szA, szA_append a b]; omega
theorem szL_at : ∀ {l : List Nd} {j : Nat} {n : Nd}, l[j]? = some n → szN n ≤ szL l
  | [], j, n, h => by simp at h
  | x :: l, 0, n, h => by
    simp at h
    subst h
    rw [szL_cons]
    omega
  | x :: l, j + 1, n, h => by
    have := szL_at (l := l) (j := j) (n := n) (by simpa using h)
    rw [szL_cons]
    omega
theorem szL_kids {l : List Nd} {j : Nat} {n : Nd} (h : l[j]? = some n) : szL n.kids < szL l := by
  have := szL_at h
  rw [szN_eq] at this
  omega
theorem szL_len : ∀ l : List Nd, 10 * l.length ≤ szL l
  | [] => by simp [szL]
  | n :: l => by
    have := szL_len l
    rw [szL_cons, szN_eq, List.length_cons]
    omega
theorem szA_len : ∀ l : List (ByteArray × ByteArray), 10 * l.length ≤ szA l
  | [] => by simp [szA]
  | n :: l => by
    have := szA_len l
    rw [szA, List.length_cons]
    omega
theorem szA_at : ∀ {l : List (ByteArray × ByteArray)} {j : Nat} {x : ByteArray × ByteArray}, l[j]? = some x → x.1.size + x.2.size + 10 ≤ szA l
  | [], j, x, h => by simp at h
  | y :: l, 0, x, h => by
    simp at h
    subst h
    rw [szA]
    omega
  | y :: l, j + 1, x, h => by
    have := szA_at (l := l) (j := j) (x := x) (by simpa using h)
    rw [szA]
    omega

/-- Induction over nodes: all kids' lists come ahead. -/
theorem nd_ind {P : List Nd → Prop} (h : ∀ l : List Nd, (∀ (j : Nat) (n : Nd), l[j]? = some n → P n.kids) → P l) : ∀ l, P l := by
  have key : ∀ (k : Nat) (l : List Nd), szL l ≤ k → P l := by
    intro k
    induction k with
    | zero =>
      intro l hl
      refine h l fun j n hj => ?_
      have := szL_kids hj
      omega
    | succ k ih =>
      intro l hl
      refine h l fun j n hj => ih _ ?_
      have := szL_kids hj
      omega
  exact fun l => key _ l (Nat.le_refl _)

/-! ### merged -/
/-- A text behind a list's last node is one with it, if that is a text. -/
def mglue (l : List Nd) (x : ByteArray) : List Nd :=
  match l.getLast? with
  | some n => l.dropLast ++ [.mk n.kind n.name n.attrs (n.text ++ x) n.kids]
  | none => []
def lastText (l : List Nd) : Bool := match l.getLast? with | some n => n.kind == 2 | none => false
def mstep (out : List Nd) (n : Nd) : List Nd :=
  if n.kind = 2 ∧ n.text.data.toList = [] then out else if n.kind = 2 ∧ lastText out = true then mglue out n.text else out ++ [n]
def mergeB (l : List Nd) : List Nd := l.foldl mstep []

theorem mglue_snoc (l : List Nd) (n : Nd) (x : ByteArray) : mglue (l ++ [n]) x = l ++ [.mk n.kind n.name n.attrs (n.text ++ x) n.kids] := by simp [mglue]
theorem lastText_snoc (l : List Nd) (n : Nd) : lastText (l ++ [n]) = (n.kind == 2) := by simp [lastText]
theorem snoc_of {α : Type} {l : List α} (h : 0 < l.length) : ∃ m x, l = m ++ [x] := by
  rcases List.eq_nil_or_concat l with rfl | ⟨m, x, hx⟩
  · simp at h
  · exact ⟨m, x, by rw [hx]; simp⟩

theorem szN_mk (k : Int) (n : ByteArray) (a : List (ByteArray × ByteArray)) (t : ByteArray) (ks : List Nd) : szN (.mk k n a t ks) = 10 + n.size + t.size + szA a + szL ks := by simp [szN]

theorem mstep_sz (out : List Nd) (n : Nd) : szL (mstep out n) ≤ szL out + szN n := by
  unfold mstep
  split
  · omega
  · split
    · rename_i h
      rcases Nat.eq_zero_or_pos out.length with h0 | h0
      · have : out = [] := List.eq_nil_of_length_eq_zero h0
        subst this
        simp [lastText] at h
      · obtain ⟨m, x, rfl⟩ := snoc_of h0
        have e1 := szN_eq x
        have e2 := szN_eq n
        rw [mglue_snoc, szL_append, szL_append, szL_cons, szL_cons, szL_nil, szN_mk, ByteArray.size_append]
        omega
    · rw [szL_append, szL_cons, szL_nil]
      omega
theorem merge_sz (l : List Nd) : szL (mergeB l) ≤ szL l := by
  unfold mergeB
  have key : ∀ (l : List Nd) (out : List Nd), szL (l.foldl mstep out) ≤ szL out + szL l := by
    intro l
    induction l with
    | nil => intro out; simp
    | cons n l ih =>
      intro out
      have := ih (mstep out n)
      have := mstep_sz out n
      rw [List.foldl_cons, szL_cons]
      omega
  have := key l []
  rw [szL_nil] at this
  omega

end Go.Proofs.YthmnnalamaponaaGreat

/- Part Norm. -/
namespace Go.Proofs.YthmnnalamaponaaGreat
set_option linter.unusedVariables false

theorem norm_13 (a : Int) (t : List Int) : norm a (13 :: t) = 10 :: norm 13 t := by simp [norm]
theorem norm_10 (t : List Int) : norm 13 (10 :: t) = norm 10 t := by simp [norm]
theorem norm_0 (a : Int) (t : List Int) : norm a (0 :: t) = 65533 :: norm 0 t := by simp [norm]
theorem norm_r {a r : Int} (t : List Int) (h1 : r ≠ 13) (h2 : ¬ (r = 10 ∧ a = 13)) (h3 : r ≠ 0) : norm a (r :: t) = r :: norm r t := by
  show (if r = 13 then [10] else if r = 10 ∧ a = 13 then [] else if r = 0 then [65533] else [r]) ++ norm r t = _
  rw [if_neg h1, if_neg h2, if_neg h3]
  rfl

end Go.Proofs.YthmnnalamaponaaGreat

/- Part MathV. -/
namespace Go.Proofs.YthmnnalamaponaaGreat
set_option linter.unusedVariables false

/-- May bytes begin as they do in a right text? -/
def okAt (l : List UInt8) : Bool := !(decide ((dec l).1 = 0) || decide ((dec l).1 = 13) || (decide ((dec l).1 = 65533) && !Lib.hasPrefix l [239, 191, 189]))

def isF : Nat → List UInt8 → Bool
  | 0, _ => true
  | f + 1, l => if l.length = 0 then true else okAt l && isF f (l.drop (dec l).2)
/-- Are bytes a right text? -/
def isB (l : List UInt8) : Bool := isF l.length l

theorem isF_fuel : ∀ (f g : Nat) (l : List UInt8), l.length ≤ f → l.length ≤ g → isF f l = isF g l
  | 0, 0, l, _, _ => rfl
  | 0, g + 1, l, h, _ => by
    have : l.length = 0 := by omega
    simp [isF, this]
  | f + 1, 0, l, _, h => by
    have : l.length = 0 := by omega
    simp [isF, this]
  | f + 1, g + 1, l, hf, hg => by
    unfold isF
    by_cases h0 : l.length = 0
    · rw [if_pos h0, if_pos h0]
    · have hw := dec_width (l := l) (by omega)
      rw [if_neg h0, if_neg h0, isF_fuel f g _ (by rw [List.length_drop]; omega) (by rw [List.length_drop]; omega)]

theorem isB_nil : isB [] = true := rfl
theorem isB_step {l : List UInt8} (h : 0 < l.length) : isB l = (okAt l && isB (l.drop (dec l).2)) := by
  have hw := dec_width h
  obtain ⟨m, hm⟩ : ∃ m, l.length = m + 1 := ⟨l.length - 1, by omega⟩
  unfold isB
  rw [hm]
  conv => lhs; unfold isF
  rw [if_neg (by omega), isF_fuel m _ _ (by rw [List.length_drop]; omega) (Nat.le_refl _)]

theorem isB_enc : ∀ L : List Int, (∀ r ∈ L, okN r) → isB (enc L) = true
  | [], _ => rfl
  | r :: L, h => by
    have hr := h r (by simp)
    have e := dec_enc hr.1 (enc L)
    have hn : 0 ≤ r := by have := hr.1; unfold okR at this; omega
    rw [enc_cons, isB_step (by have := (Lib.encodeRuneZ_length r).1; simp [Lib.encodeRune]; omega)]
    have e2 : (dec (Lib.encodeRune r ++ enc L)).2 = (Lib.encodeRune r).length := by rw [e]
    rw [e2, List.drop_left, isB_enc L (fun x hx => h x (by simp [hx])), Bool.and_true]
    unfold okAt
    rw [e]
    have h0 := hr.2.1
    have h13 := hr.2.2
    by_cases h6 : r = 65533
    · subst h6
      have e1 : Lib.encodeRune 65533 = [239, 191, 189] := by decide
      rw [e1]
      simp [Lib.hasPrefix]
    · have a1 : ¬ r.toNat = 0 := by omega
      have a2 : ¬ r.toNat = 13 := by omega
      have a3 : ¬ r.toNat = 65533 := by omega
      simp [a1, a2, a3]

theorem right_len (l : List UInt8) : (right l).length ≤ 4 * l.length := by
  have h1 := runes_len _ l (Nat.le_refl _)
  have h2 := norm_len (runes l) 0
  have h3 := enc_len (norm 0 (runes l))
  unfold right
  omega

theorem isB_right (l : List UInt8) : isB (right l) = true := isB_enc _ (norm_ok (runes l) 0 (runes_ok _ l (Nat.le_refl _)))

theorem isB_join (a b : List UInt8) : isB (right a ++ right b) = true := by
  unfold right
  rw [← enc_append]
  refine isB_enc _ (fun r hr => ?_)
  rcases List.mem_append.1 hr with h | h
  · exact norm_ok (runes a) 0 (runes_ok _ a (Nat.le_refl _)) r h
  · exact norm_ok (runes b) 0 (runes_ok _ b (Nat.le_refl _)) r h

theorem runes_right (a : List UInt8) : runes (right a) = norm 0 (runes a) := runes_enc _ (fun r hr => (norm_ok (runes a) 0 (runes_ok _ a (Nat.le_refl _)) r hr).1)

theorem runes_join (a b : List UInt8) : runes (right a ++ right b) = runes (right a) ++ runes (right b) := by
  rw [runes_right, runes_right]
  unfold right
  rw [← enc_append]
  refine runes_enc _ (fun r hr => ?_)
  rcases List.mem_append.1 hr with h | h
  · exact (norm_ok (runes a) 0 (runes_ok _ a (Nat.le_refl _)) r h).1
  · exact (norm_ok (runes b) 0 (runes_ok _ b (Nat.le_refl _)) r h).1

end Go.Proofs.YthmnnalamaponaaGreat

/- Part MathW. -/
namespace Go.Proofs.YthmnnalamaponaaGreat
set_option linter.unusedVariables false

theorem u8_of {c : UInt8} {x : Int} (h : x = (c.toNat : Int)) : x.toNat.toUInt8 = c := by
  subst h
  simp

theorem byt_at {l : List UInt8} {k : Nat} {c : UInt8} (h : l[k]? = some c) : byt l k = c.toNat := by
  unfold byt
  rw [List.getD_eq_getElem?_getD, h]
  rfl

theorem cont_nat {l : List UInt8} {k : Nat} (h : cont l k = true) : byt l k / 64 = 2 := by
  unfold cont at h
  simp at h
  exact h.2

theorem pre_wrong {l : List UInt8} (h : Lib.hasPrefix l [239, 191, 189] = true) : ∃ t, l = 239 :: 191 :: 189 :: t := by
  unfold Lib.hasPrefix at h
  match l, h with
  | [], h => simp [List.isPrefixOf] at h
  | [a], h => simp [List.isPrefixOf] at h
  | [a, b], h => simp [List.isPrefixOf] at h
  | a :: b :: c :: t, h =>
    simp [List.isPrefixOf] at h
    exact ⟨t, by rw [h.1, h.2.1, h.2.2]⟩

theorem dec_wrong (t : List UInt8) : dec (239 :: 191 :: 189 :: t) = (65533, 3) := by
  have b0 : byt (239 :: 191 :: 189 :: t) 0 = 239 := rfl
  have b1 : byt (239 :: 191 :: 189 :: t) 1 = 191 := rfl
  have b2 : byt (239 :: 191 :: 189 :: t) 2 = 189 := rfl
  have c1 : cont (239 :: 191 :: 189 :: t) 1 = true := by unfold cont; rw [b1]; simp
  have c2 : cont (239 :: 191 :: 189 :: t) 2 = true := by unfold cont; rw [b2]; simp
  unfold dec
  rw [b0, b1, b2, c1, c2]
  rfl

theorem two_more {a : UInt8} {l : List UInt8} (h : 2 < (a :: l).length) : ∃ b c l', l = b :: c :: l' := by
  match l, h with
  | [], h => simp at h
  | [b], h => simp at h
  | b :: c :: l', _ => exact ⟨b, c, l', rfl⟩
theorem three_more {a : UInt8} {l : List UInt8} (h : 3 < (a :: l).length) : ∃ b c d l', l = b :: c :: d :: l' := by
  match l, h with
  | [], h => simp at h
  | [b], h => simp at h
  | [b, c], h => simp at h
  | b :: c :: d :: l', _ => exact ⟨b, c, d, l', rfl⟩

theorem enc_dec {l : List UInt8} (h0 : 0 < l.length) (h : okAt l = true) : Lib.encodeRune ((dec l).1 : Int) = l.take (dec l).2 := by
  by_cases hp : Lib.hasPrefix l [239, 191, 189] = true
  · obtain ⟨t, rfl⟩ := pre_wrong hp
    rw [dec_wrong]
    rfl
  have hw : (dec l).1 ≠ 65533 := by
    intro e
    unfold okAt at h
    rw [e] at h
    simp at h
    exact hp h
  match l, h0 with
  | a :: l, _ =>
    have b0 : byt (a :: l) 0 = a.toNat := rfl
    have ha := a.toNat_lt
    unfold dec at hw ⊢
    rw [b0] at hw ⊢
    split
    · rename_i h1
      simp only [List.take_succ_cons, List.take_zero]
      unfold Lib.encodeRune
      rw [Lib.encodeRuneZ_one (by omega) (by omega)]
      simp only [List.map_cons, List.map_nil]
      rw [u8_of rfl]
    · rename_i h1
      rw [if_neg h1] at hw
      split
      · rename_i h2
        rw [if_pos h2] at hw
        have k1 := byt_len h2.2
        have n1 := cont_nat h2.2
        obtain ⟨b, l', rfl⟩ : ∃ b l', l = b :: l' := by cases l with | nil => simp at k1 | cons b l' => exact ⟨b, l', rfl⟩
        have b1 : byt (a :: b :: l') 1 = b.toNat := rfl
        rw [b1] at hw n1 ⊢
        split
        · rename_i h3
          simp only [List.take_succ_cons, List.take_zero]
          unfold Lib.encodeRune
          rw [Lib.encodeRuneZ_two (by omega) (by omega)]
          simp only [List.map_cons, List.map_nil]
          rw [u8_of (c := a) (by omega), u8_of (c := b) (by omega)]
        · rename_i h3; rw [if_neg h3] at hw; exact absurd rfl hw
      · rename_i h2
        rw [if_neg h2] at hw
        split
        · rename_i h3
          rw [if_pos h3] at hw
          have k1 := byt_len h3.2.1
          have k2 := byt_len h3.2.2
          have n1 := cont_nat h3.2.1
          have n2 := cont_nat h3.2.2
          obtain ⟨b, c, l', rfl⟩ := two_more k2
          have b1 : byt (a :: b :: c :: l') 1 = b.toNat := rfl
          have b2 : byt (a :: b :: c :: l') 2 = c.toNat := rfl
          rw [b1] at hw n1 ⊢
          rw [b2] at hw n2 ⊢
          split
          · rename_i h4
            simp only [List.take_succ_cons, List.take_zero]
            unfold Lib.encodeRune
            rw [Lib.encodeRuneZ_three (by omega)]
            simp only [List.map_cons, List.map_nil]
            have e1 : (224 + (((a.toNat % 16 * 4096 + b.toNat % 64 * 64 + c.toNat % 64 : Nat) : Int)) / 4096) = (a.toNat : Int) := by omega
            have e2 : (128 + (((a.toNat % 16 * 4096 + b.toNat % 64 * 64 + c.toNat % 64 : Nat) : Int)) / 64 % 64) = (b.toNat : Int) := by omega
            have e3 : (128 + (((a.toNat % 16 * 4096 + b.toNat % 64 * 64 + c.toNat % 64 : Nat) : Int)) % 64) = (c.toNat : Int) := by omega
            rw [u8_of e1, u8_of e2, u8_of e3]
          · rename_i h4; rw [if_neg h4] at hw; exact absurd rfl hw
        · rename_i h3
          rw [if_neg h3] at hw
          split
          · rename_i h4
            rw [if_pos h4] at hw
            have k3 := byt_len h4.2.2.2
            have n1 := cont_nat h4.2.1
            have n2 := cont_nat h4.2.2.1
            have n3 := cont_nat h4.2.2.2
            obtain ⟨b, c, d, l', rfl⟩ := three_more k3
            have b1 : byt (a :: b :: c :: d :: l') 1 = b.toNat := rfl
            have b2 : byt (a :: b :: c :: d :: l') 2 = c.toNat := rfl
            have b3 : byt (a :: b :: c :: d :: l') 3 = d.toNat := rfl
            rw [b1] at hw n1 ⊢
            rw [b2] at hw n2 ⊢
            rw [b3] at hw n3 ⊢
            split
            · rename_i h5
              simp only [List.take_succ_cons, List.take_zero]
              unfold Lib.encodeRune
              rw [Lib.encodeRuneZ_four (by omega) (by omega)]
              simp only [List.map_cons, List.map_nil]
              have e1 : (240 + (((a.toNat % 8 * 262144 + b.toNat % 64 * 4096 + c.toNat % 64 * 64 + d.toNat % 64 : Nat) : Int)) / 262144) = (a.toNat : Int) := by omega
              have e2 : (128 + (((a.toNat % 8 * 262144 + b.toNat % 64 * 4096 + c.toNat % 64 * 64 + d.toNat % 64 : Nat) : Int)) / 4096 % 64) = (b.toNat : Int) := by omega
              have e3 : (128 + (((a.toNat % 8 * 262144 + b.toNat % 64 * 4096 + c.toNat % 64 * 64 + d.toNat % 64 : Nat) : Int)) / 64 % 64) = (c.toNat : Int) := by omega
              have e4 : (128 + (((a.toNat % 8 * 262144 + b.toNat % 64 * 4096 + c.toNat % 64 * 64 + d.toNat % 64 : Nat) : Int)) % 64) = (d.toNat : Int) := by omega
              rw [u8_of e1, u8_of e2, u8_of e3, u8_of e4]
            · rename_i h5; rw [if_neg h5] at hw; exact absurd rfl hw
          · rename_i h4; rw [if_neg h4] at hw; exact absurd rfl hw

/-- A right text is the text of characters that may stand in one. -/
theorem isB_chars : ∀ (n : Nat) (l : List UInt8), l.length ≤ n → isB l = true → ∃ L, (∀ r ∈ L, okN r) ∧ l = enc L
  | 0, l, h, _ => ⟨[], by simp, List.eq_nil_of_length_eq_zero (by omega)⟩
  | n + 1, l, h, hb => by
    by_cases h0 : l.length = 0
    · exact ⟨[], by simp, List.eq_nil_of_length_eq_zero h0⟩
    · have hw := dec_width (l := l) (by omega)
      rw [isB_step (by omega), Bool.and_eq_true] at hb
      obtain ⟨L, ok, e⟩ := isB_chars n (l.drop (dec l).2) (by rw [List.length_drop]; omega) hb.2
      have he := enc_dec (l := l) (by omega) hb.1
      refine ⟨((dec l).1 : Int) :: L, ?_, ?_⟩
      · intro r hr
        rcases List.mem_cons.1 hr with rfl | hr
        · have h1 := hb.1
          unfold okAt at h1
          simp at h1
          exact ⟨dec_ok l, by omega, by omega⟩
        · exact ok r hr
      · rw [enc_cons, he, ← e, List.take_append_drop]

theorem right_of_isB {l : List UInt8} (h : isB l = true) : right l = l := by
  obtain ⟨L, ok, rfl⟩ := isB_chars _ l (Nat.le_refl _) h
  unfold right
  rw [runes_enc _ (fun r hr => (ok r hr).1), norm_same _ 0 (by omega) ok]
theorem isB_iff (l : List UInt8) : isB l = decide (right l = l) := by
  by_cases h : right l = l
  · rw [decide_eq_true h, ← h, isB_right]
  · rw [decide_eq_false h]
    cases hb : isB l with
    | false => rfl
    | true => exact absurd (right_of_isB hb) h

end Go.Proofs.YthmnnalamaponaaGreat

/- Part NamM. -/
namespace Go.Proofs.YthmnnalamaponaaGreat
set_option linter.unusedVariables false

/-- A letter a to z; a byte of an element's name; one that an attribute's name may have. -/
def smC (c : UInt8) : Bool := decide (97 ≤ c.toNat) && decide (c.toNat ≤ 122)
def namC (c : UInt8) : Bool := smC c || (decide (48 ≤ c.toNat) && decide (c.toNat ≤ 57)) || decide (c.toNat = 45)
def attC (c : UInt8) : Bool := !((decide (65 ≤ c.toNat) && decide (c.toNat ≤ 90)) || decide (c.toNat = 9) || decide (c.toNat = 10) || decide (c.toNat = 12) || decide (c.toNat = 32) || decide (c.toNat = 47) || decide (c.toNat = 62) || decide (c.toNat = 61))
def namedB : List UInt8 → Bool
  | [] => false
  | c :: t => smC c && (c :: t).all namC
def attrB (l : List UInt8) : Bool := isB l && l.all attC && !l.isEmpty
def voidB (l : List UInt8) : Bool := decide (l = [98, 114]) || decide (l = [104, 114]) || decide (l = [105, 109, 103]) || decide (l = [105, 110, 112, 117, 116]) || decide (l = [119, 98, 114])
def rawB (l : List UInt8) : Bool := decide (l = [115, 99, 114, 105, 112, 116]) || decide (l = [115, 116, 121, 108, 101])

theorem all_false {p : UInt8 → Bool} {l : List UInt8} {k : Nat} {c : UInt8} (h : l[k]? = some c) (hp : p c = false) : l.all p = false := by
  rw [List.all_eq_false]
  exact ⟨c, List.mem_of_getElem? h, by rw [hp]; simp⟩
theorem all_snoc (p : UInt8 → Bool) (l : List UInt8) (c : UInt8) : (l ++ [c]).all p = (l.all p && p c) := by simp

/-- A name's bytes are below 128: it is right. -/
theorem asc_right : ∀ (l : List UInt8), (∀ c ∈ l, c.toNat < 128 ∧ c.toNat ≠ 0 ∧ c.toNat ≠ 13) → isB l = true
  | [], _ => rfl
  | c :: t, h => by
    have hc := h c (by simp)
    have e : dec (c :: t) = (c.toNat, 1) := by
      unfold dec
      have e : byt (c :: t) 0 = c.toNat := rfl
      rw [e, if_pos hc.1]
    rw [isB_step (by simp)]
    unfold okAt
    rw [e]
    simp only [List.drop_succ_cons, List.drop_zero]
    rw [asc_right t (fun x hx => h x (by simp [hx]))]
    have h1 : ¬ c.toNat = 65533 := by omega
    simp [hc.2.1, hc.2.2, h1]
theorem namC_asc {c : UInt8} (h : namC c = true) : c.toNat < 128 ∧ c.toNat ≠ 0 ∧ c.toNat ≠ 13 := by
  unfold namC smC at h
  simp at h
  omega
theorem namedB_right {l : List UInt8} (h : namedB l = true) : isB l = true := by
  refine asc_right l fun c hc => ?_
  cases l with
  | nil => cases hc
  | cons a t =>
    unfold namedB at h
    rw [Bool.and_eq_true, List.all_eq_true] at h
    exact namC_asc (h.2 c hc)

end Go.Proofs.YthmnnalamaponaaGreat
