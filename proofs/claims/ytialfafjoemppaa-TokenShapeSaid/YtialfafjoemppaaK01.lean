/- Parts of the proof, in build order: Mem MemB MemC MathU TreeM Tree. -/
import Derived.Test.YtialfafjoemppaaRows
import Derived.WalkKit
import Derived.WalkSpells
import Derived.WalkLawsBesides
import Derived.Lib.Hide
import Derived.Deep.QuietTactic
import Derived.BigQuiet
import Derived.Lib.UnsafeStr
import Derived.Laws.IdiomStrings
import Derived.Lib.Strings
import Derived.Lib.RuneBytes
import Derived.Lib.RuneCount
import Derived.ArgAppend
import Derived.OwnWalk
import Derived.Laws.OwnMore

/- Part Mem. -/
namespace Go.Proofs.Ytialfafjoemppaa
open Go.RowKit
set_option linter.unusedVariables false

theorem ret_int {k : IntKind} {a b : Int} (h : a = b) : Ending.returned (.int k a) = .returned (.int k b) := by rw [h]

/-- The slice with address A holds the cells xs; they lie below block B. -/
def Sits (w : World) (B : Nat) (A : Option Addr) (xs : List Value) : Prop :=
  0 < xs.length → ∃ b o, A = some ⟨b, o, none⟩ ∧ b < B ∧ ∀ j u, xs[j]? = some u → w.cell? ⟨b, o + j, none⟩ = some u

theorem Sits.nil (w : World) (B : Nat) (A : Option Addr) : Sits w B A [] := fun h => absurd h (by simp)

theorem Sits.open_ {w : World} {B : Nat} {A : Option Addr} {xs : List Value} (h : Sits w B A xs) (hx : 0 < xs.length) :
    ∃ b o, A = some ⟨b, o, none⟩ ∧ b < B ∧ ∀ j u, xs[j]? = some u → w.cell? ⟨b, o + j, none⟩ = some u := h hx

theorem Sits.keep {w w' : World} {B : Nat} {A : Option Addr} {xs : List Value} (h : Sits w B A xs) (hk : ∀ b j, b < B → w'.cell? ⟨b, j, none⟩ = w.cell? ⟨b, j, none⟩) : Sits w' B A xs := by
  intro hx
  obtain ⟨b, o, hA, hb, hc⟩ := h hx
  exact ⟨b, o, hA, hb, fun j u hu => (hk b _ hb).trans (hc j u hu)⟩

theorem Sits.below {w w' : World} {B : Nat} {A : Option Addr} {xs : List Value} (h : Sits w B A xs) (hb : Below B w w') : Sits w' B A xs :=
  h.keep fun b j hbB => hb.cell (p := ⟨b, j, none⟩) hbB

theorem Sits.more {w : World} {B B' : Nat} {A : Option Addr} {xs : List Value} (h : Sits w B A xs) (hB : B ≤ B') : Sits w B' A xs := by
  intro hx
  obtain ⟨b, o, hA, hb, hc⟩ := h hx
  exact ⟨b, o, hA, by omega, hc⟩

theorem Sits.take {w : World} {B : Nat} {A : Option Addr} {xs : List Value} (h : Sits w B A xs) (n : Nat) : Sits w B A (xs.take n) := by
  intro hx
  obtain ⟨b, o, hA, hb, hc⟩ := h (by rw [List.length_take] at hx; omega)
  refine ⟨b, o, hA, hb, fun j u hu => hc j u ?_⟩
  rw [List.getElem?_take] at hu
  split at hu
  · exact hu
  · cases hu

/-- What the call owns can be read. -/
theorem Sits.own {w : World} {base : Nat} {e : TypeId} {A : Option Addr} {n c : Nat} {xs : List Value} (h : w.ownsRow base e 1 (.slice A n c) n xs) : Sits w w.heap.size A xs := by
  intro hx
  have hn : 0 < n := by have := h.1; omega
  rcases h.2 with ⟨_, h0⟩ | ⟨g, cap, cur, hv, hg, hh, _⟩
  · omega
  · have hA : A = some ⟨g, 0, none⟩ := by injection hv
    have hc : c = cap := by injection hv
    subst hA
    subst hc
    refine ⟨g, 0, rfl, (Array.getElem?_eq_some_iff.1 hh).1, fun j u hu => ?_⟩
    have hj : j < n := by
      have h1 := (List.getElem?_eq_some_iff.1 hu).1
      have := h.1
      omega
    rw [Nat.zero_add, h.cellAt j (by omega)]
    exact hu

theorem own_shape {w : World} {base : Nat} {e : TypeId} {v : Value} {n : Nat} {xs : List Value} (h : w.ownsRow base e 1 v n xs) : ∃ A c, v = .slice A n c ∧ n ≤ c := by
  rcases h.2 with ⟨hv, h0⟩ | ⟨g, cap, cur, hv, _, _, hn, _⟩
  · subst h0
    exact ⟨none, 0, hv, Nat.le_refl _⟩
  · exact ⟨some ⟨g, 0, none⟩, cap, hv, hn⟩

/-- A new cell, at its address. -/
theorem new_one (w : World) (t : TypeId) (u : Value) : ∀ j x, [u][j]? = some x → (w.alloc (.cells #[u] t)).cell? ((⟨w.heap.size, 0, none⟩ : Addr).add j) = some x := by
  intro j x hj
  match j, hj with
  | 0, hj =>
    simp at hj
    subst hj
    simp [Addr.add]

theorem byteCells_at {l : List UInt8} {j : Nat} (h : j < l.length) : (Lib.byteCells l)[j]? = some (.int .u8 (l.getD j 0).toNat) := by
  unfold Lib.byteCells
  rw [List.getElem?_map, List.getElem?_eq_getElem h]
  simp [List.getD, h]

theorem add_zero_addr (b j : Nat) : (⟨b, 0, none⟩ : Addr).add j = ⟨b, j, none⟩ := by
  unfold Addr.add
  split
  · rename_i h0; subst h0; rfl
  · simp

theorem quiet_here {P : Program} {f : FuncId} {args : Array Value} {w : World} {n : Nat} {v : Value}
    (h : Calls P f args (w.drewN n) fun e w' => e = .returned v ∧ w.drewN n = w') : Calls P f args (w.drewN n) fun e w'' => e = .returned v ∧ ∃ m, w'' = w.drewN m :=
  h.mono fun _ _ ⟨he, hm⟩ => ⟨he, n, hm.symm⟩

theorem at_data (s : ByteArray) (k : Nat) (h : k < s.size) : s.data.toList[k]'(by simpa using h) = s[k] := by
  rw [Array.getElem_toList]
  rfl

end Go.Proofs.Ytialfafjoemppaa

/- Part MemB. -/
namespace Go.Proofs.Ytialfafjoemppaa
open Go.RowKit
set_option linter.unusedVariables false

theorem own_below {w w' : World} {base : Nat} {e : TypeId} {s : Nat} {v : Value} {n : Nat} {xs : List Value} (h : w.ownsRow base e s v n xs) (hb : Below w.heap.size w w') : w'.ownsRow base e s v n xs := by
  refine ⟨h.1, ?_⟩
  rcases h.2 with h2 | ⟨g, cap, cur, hv, hg, hh, r⟩
  · exact .inl h2
  · exact .inr ⟨g, cap, cur, hv, hg, (hb.block g (Array.getElem?_eq_some_iff.1 hh).1).trans hh, r⟩

theorem own_more {w : World} {base base' : Nat} {e : TypeId} {s : Nat} {v : Value} {n : Nat} {xs : List Value} (h : w.ownsRow base e s v n xs) (hb : base' ≤ base) : w.ownsRow base' e s v n xs := by
  refine ⟨h.1, ?_⟩
  rcases h.2 with h2 | ⟨g, cap, cur, hv, hg, r⟩
  · exact .inl h2
  · exact .inr ⟨g, cap, cur, hv, by omega, r⟩

theorem below_after {a w w' : World} (h : Below a.heap.size a w) (hb : Below w.heap.size w w') : Below a.heap.size a w' := h.trans (hb.mono h.size)

/-- A slice written out with its cells. -/
theorem own_lit (w : World) (e : TypeId) (cs : Array Value) (n : Nat) (hn : cs.size = n) (hm : n ≤ maxLen) :
    (w.alloc (.cells cs e)).ownsRow w.heap.size e 1 (.slice (some ⟨w.heap.size, 0, none⟩) n n) n cs.toList := by
  have := World.ownsRow_lit (base := w.heap.size) (e := e) (size := 1) w cs n (Nat.le_refl _) hm (by omega)
  exact this

theorem byteCells_one (l : List UInt8) : ∀ u ∈ Lib.byteCells l, u.oneCell' = true := by
  intro u hu
  unfold Lib.byteCells at hu
  obtain ⟨b, _, rfl⟩ := List.mem_map.1 hu
  rfl

/-- The address of what the call owns, if there is something. -/
theorem own_addr {w : World} {base : Nat} {e : TypeId} {A : Option Addr} {n c : Nat} {xs : List Value} (h : w.ownsRow base e 1 (.slice A n c) n xs) (hn : 0 < n) :
    ∃ g, A = some ⟨g, 0, none⟩ ∧ ∀ j u, xs[j]? = some u → w.cell? ((⟨g, 0, none⟩ : Addr).add j) = some u := by
  rcases h.2 with ⟨_, h0⟩ | ⟨g, cap, cur, hv, hg, hh, r⟩
  · omega
  · have hA : A = some ⟨g, 0, none⟩ := by injection hv
    subst hA
    exact ⟨g, rfl, h.cells rfl⟩

/-- 'string(b)'. -/
theorem convert_bytes {w : World} {B : Nat} {A : Option Addr} {c : Nat} {l : List UInt8} (h : Sits w B A (Lib.byteCells l)) :
    (convert 36 9 (.slice A l.length c)).run Try.prog w = .ok (.string ⟨l.toArray⟩) w := by
  rcases Nat.eq_zero_or_pos l.length with h0 | h0
  · have : l = [] := List.eq_nil_of_length_eq_zero h0
    subst this
    rw [List.length_nil, run_convert_bytes_string w 36 9 5 A 0 c Try.underlying36 Try.underlying5 Try.underlying9]
    cases A with
    | none => simp [Conv.bytesToString]; rfl
    | some a => exact run_bytesToString w a 0 c [] (by simp [loadCells, loadCellsFrom])
  · obtain ⟨b, o, rfl, _, hc⟩ := h.open_ (by rw [Lib.byteCells_length]; exact h0)
    refine run_convert_bytes_back w 36 9 5 ⟨b, o, none⟩ c l Try.underlying36 Try.underlying5 Try.underlying9 (fun j hj => ?_)
    have e : (⟨b, o, none⟩ : Addr).add j = ⟨b, o + j, none⟩ := by
      unfold Addr.add
      split
      · rename_i h0; subst h0; rfl
      · rfl
    rw [e]
    refine hc j _ ?_
    unfold Lib.byteCells
    rw [List.getElem?_map, List.getElem?_eq_getElem hj]
    rfl

end Go.Proofs.Ytialfafjoemppaa

/- Part MemC. -/
namespace Go.Proofs.Ytialfafjoemppaa
open Go.RowKit
set_option linter.unusedVariables false

/-- '[]byte(s)': the new row holds s's bytes. -/
theorem sits_new (w : World) (s : ByteArray) (cap : Nat) :
    Sits (w.alloc (.cells (bytesRow s cap) 5 ((bytesRow s cap).size, (bytesRow s cap).size + 1))).drew (w.heap.size + 1) (some ⟨w.heap.size, 0, none⟩) (Lib.byteCells s.data.toList) := by
  intro hp
  refine ⟨w.heap.size, 0, rfl, by omega, fun j u hu => ?_⟩
  show (w.alloc _).cell? _ = _
  rw [World.cell?_alloc_mark, Nat.zero_add]
  have hj : j < s.data.size := by
    have := (List.getElem?_eq_some_iff.1 hu).1
    rw [Lib.byteCells_length] at this
    simpa using this
  rw [bytesRow_at s cap j hj, ← hu]
  unfold Lib.byteCells
  rw [List.getElem?_map, List.getElem?_eq_getElem (by simpa using hj)]
  simp

theorem alloc_drew_below (w : World) (o : Obj) : Below w.heap.size w (w.alloc o).drew := ((Below.refl _ w).alloc (Nat.le_refl _) _).drew

/-- 'x[:k]' within the capacity. -/
theorem cut_head (W : World) (A : Option Addr) (n c k : Nat) (hk : k ≤ c) :
    (Instr.slice 36 (.slice A n c) none (some (.int .i64 (k : Int))) none).run Try.prog W = .ok (.slice A k c) W := by
  have he : Try.prog.elem 36 = 5 := by kernel_rfl
  rw [run_slice_h W 36 A n c (by rw [he]; exact Try.underlying36) .i64 (k : Int) (by omega) (by omega)]
  rw [he, Try.sizeOf5]
  simp only [Result.andThen, sliced, Int.toNat_natCast, Nat.zero_mul, Nat.sub_zero]
  have e : (A.map fun x => x.add 0) = A := by
    cases A with
    | none => rfl
    | some a => rfl
  rw [e]
  split <;> rfl

/-- What is told of a text that was made right, for the calls behind. -/
theorem str_of (r : List UInt8) : ∃ s : ByteArray, (⟨r.toArray⟩ : ByteArray) = s ∧ s.data.toList = r ∧ s.size = r.length := ⟨_, rfl, rfl, rfl⟩

theorem sits_conv {w : World} {s : ByteArray} {r : List UInt8} (h : s.data.toList = r) :
    ∃ w2, (w.alloc (.cells (bytesRow s (grownCap w s.size 0 5)) 5 ((bytesRow s (grownCap w s.size 0 5)).size, (bytesRow s (grownCap w s.size 0 5)).size + 1))).drew = w2 ∧
      Sits w2 w2.heap.size (some ⟨w.heap.size, 0, none⟩) (Lib.byteCells r) ∧ Below w.heap.size w w2 := by
  refine ⟨_, rfl, ?_, alloc_drew_below w _⟩
  have := sits_new w s (grownCap w s.size 0 5)
  rw [h] at this
  simpa using this

theorem drop_extract (s : ByteArray) (pos : Nat) : (s.extract pos s.size).data.toList = s.data.toList.drop pos := by
  rw [Lib.extract_data]
  rw [List.take_of_length_le]
  rw [List.length_drop]
  have : s.data.toList.length = s.size := by simp
  omega

theorem take_extract (s : ByteArray) (n : Nat) : (s.extract 0 n).data.toList = s.data.toList.take n := by
  rw [Lib.extract_data]
  simp

theorem mid_extract (s : ByteArray) (a b : Nat) : (s.extract a b).data.toList = (s.data.toList.drop a).take (b - a) := by rw [Lib.extract_data]

theorem eq_lit (s : ByteArray) (l : List UInt8) : (l == s.toList) = decide (s.data.toList = l) := by
  rw [Lib.toList_data]
  by_cases h : s.data.toList = l
  · rw [h]; simp
  · rw [decide_eq_false h, beq_eq_false_iff_ne]
    exact fun e => h e.symm

theorem str_list (t : ByteArray) : t.size = t.data.toList.length := by simp

end Go.Proofs.Ytialfafjoemppaa

/- Part MathU. -/
namespace Go.Proofs.Ytialfafjoemppaa
set_option linter.unusedVariables false

/-- The k-th byte, or 0. -/
def byt (l : List UInt8) (k : Nat) : Nat := (l.getD k 0).toNat
/-- Is there a k-th byte, and does it go on? -/
def cont (l : List UInt8) (k : Nat) : Bool := decide (k < l.length) && byt l k / 64 == 2

/-- The character with which bytes begin, and how many bytes it has. -/
def dec (l : List UInt8) : Nat × Nat :=
  if byt l 0 < 128 then (byt l 0, 1)
  else if byt l 0 / 32 = 6 ∧ cont l 1 = true then
    if 128 ≤ byt l 0 % 32 * 64 + byt l 1 % 64 then (byt l 0 % 32 * 64 + byt l 1 % 64, 2) else (65533, 1)
  else if byt l 0 / 16 = 14 ∧ cont l 1 = true ∧ cont l 2 = true then
    if 2048 ≤ byt l 0 % 16 * 4096 + byt l 1 % 64 * 64 + byt l 2 % 64 ∧ ¬ (55296 ≤ byt l 0 % 16 * 4096 + byt l 1 % 64 * 64 + byt l 2 % 64 ∧ byt l 0 % 16 * 4096 + byt l 1 % 64 * 64 + byt l 2 % 64 ≤ 57343) then (byt l 0 % 16 * 4096 + byt l 1 % 64 * 64 + byt l 2 % 64, 3) else (65533, 1)
  else if byt l 0 / 8 = 30 ∧ cont l 1 = true ∧ cont l 2 = true ∧ cont l 3 = true then
    if 65536 ≤ byt l 0 % 8 * 262144 + byt l 1 % 64 * 4096 + byt l 2 % 64 * 64 + byt l 3 % 64 ∧ byt l 0 % 8 * 262144 + byt l 1 % 64 * 4096 + byt l 2 % 64 * 64 + byt l 3 % 64 ≤ 1114111 then (byt l 0 % 8 * 262144 + byt l 1 % 64 * 4096 + byt l 2 % 64 * 64 + byt l 3 % 64, 4) else (65533, 1)
  else (65533, 1)

theorem byt_lt (l : List UInt8) (k : Nat) : byt l k < 256 := by unfold byt; exact UInt8.toNat_lt _

theorem get_byt (s : ByteArray) (i k : Nat) : (s.get! (i + k)).toNat = byt (s.data.toList.drop i) k := by
  unfold byt
  have h : s.get! (i + k) = s.data[i + k]! := rfl
  rw [h, List.getD_eq_getElem?_getD, List.getElem?_drop, Array.getElem?_toList]
  rw [getElem!_def]
  cases s.data[i + k]? <;> rfl

theorem cont_eq (s : ByteArray) (i k : Nat) : (decide (i + k < s.size) && byt (s.data.toList.drop i) k / 64 == 2) = cont (s.data.toList.drop i) k := by
  unfold cont
  congr 1
  rw [decide_eq_decide, List.length_drop]
  have : s.data.toList.length = s.size := by simp
  omega

theorem valid_nat (c : Nat) : Utf8.valid (c : Int) = decide (c < 55296 ∨ (57344 ≤ c ∧ c ≤ 1114111)) := by
  unfold Utf8.valid
  rw [Bool.eq_iff_iff]
  simp
  omega

theorem decode_dec (s : ByteArray) (i : Nat) : Utf8.decode s i = dec (s.data.toList.drop i) := by
  have g0 := get_byt s i 0
  have g1 := get_byt s i 1
  have g2 := get_byt s i 2
  have g3 := get_byt s i 3
  have c1 := cont_eq s i 1
  have c2 := cont_eq s i 2
  have c3 := cont_eq s i 3
  have b0 := byt_lt (s.data.toList.drop i) 0
  have b1 := byt_lt (s.data.toList.drop i) 1
  have b2 := byt_lt (s.data.toList.drop i) 2
  have b3 := byt_lt (s.data.toList.drop i) 3
  unfold Utf8.decode dec
  simp only [g0, g1, g2, g3, valid_nat, Utf8.runeError, ge_iff_le]
  simp only [c1, c2, c3]
  simp only [Bool.and_eq_true, beq_iff_eq, decide_eq_true_eq]
  generalize byt (s.data.toList.drop i) 0 = x0 at *
  generalize byt (s.data.toList.drop i) 1 = x1 at *
  generalize byt (s.data.toList.drop i) 2 = x2 at *
  generalize byt (s.data.toList.drop i) 3 = x3 at *
  generalize cont (s.data.toList.drop i) 1 = k1 at *
  generalize cont (s.data.toList.drop i) 2 = k2 at *
  generalize cont (s.data.toList.drop i) 3 = k3 at *
  by_cases h0 : x0 < 128
  · rw [if_pos h0, if_pos h0]
  rw [if_neg h0, if_neg h0]
  by_cases h1 : x0 / 32 = 6 ∧ k1 = true
  · rw [if_pos h1, if_pos h1]
  rw [if_neg h1, if_neg h1]
  by_cases h2 : x0 / 16 = 14 ∧ k1 = true ∧ k2 = true
  · rw [if_pos ⟨⟨h2.1, h2.2.1⟩, h2.2.2⟩, if_pos h2]
    by_cases h : 2048 ≤ x0 % 16 * 4096 + x1 % 64 * 64 + x2 % 64 ∧ ¬ (55296 ≤ x0 % 16 * 4096 + x1 % 64 * 64 + x2 % 64 ∧ x0 % 16 * 4096 + x1 % 64 * 64 + x2 % 64 ≤ 57343)
    · rw [if_pos h, if_pos (by omega)]
    · rw [if_neg h, if_neg (by omega)]
  rw [if_neg (fun h => h2 ⟨h.1.1, h.1.2, h.2⟩), if_neg h2]
  by_cases h3 : x0 / 8 = 30 ∧ k1 = true ∧ k2 = true ∧ k3 = true
  · rw [if_pos ⟨⟨⟨h3.1, h3.2.1⟩, h3.2.2.1⟩, h3.2.2.2⟩, if_pos h3]
    by_cases h : 65536 ≤ x0 % 8 * 262144 + x1 % 64 * 4096 + x2 % 64 * 64 + x3 % 64 ∧ x0 % 8 * 262144 + x1 % 64 * 4096 + x2 % 64 * 64 + x3 % 64 ≤ 1114111
    · rw [if_pos h, if_pos (by omega)]
    · rw [if_neg h, if_neg (by omega)]
  rw [if_neg (fun h => h3 ⟨h.1.1.1, h.1.1.2, h.1.2, h.2⟩), if_neg h3]

/-- May a number be a character? -/
def okR (r : Int) : Prop := (0 ≤ r ∧ r < 55296) ∨ (57343 < r ∧ r ≤ 1114111)

theorem byt_len {l : List UInt8} {k : Nat} (h : cont l k = true) : k < l.length := by
  unfold cont at h
  simp at h
  exact h.1

theorem dec_width {l : List UInt8} (h : 0 < l.length) : 1 ≤ (dec l).2 ∧ (dec l).2 ≤ l.length := by
  unfold dec
  split
  · exact ⟨by simp, by simp; omega⟩
  split
  · rename_i h1
    have := byt_len h1.2
    split
    · exact ⟨by simp, by simp; omega⟩
    · exact ⟨by simp, by simp; omega⟩
  split
  · rename_i h1
    have := byt_len h1.2.2
    split
    · exact ⟨by simp, by simp; omega⟩
    · exact ⟨by simp, by simp; omega⟩
  split
  · rename_i h1
    have := byt_len h1.2.2.2
    split
    · exact ⟨by simp, by simp; omega⟩
    · exact ⟨by simp, by simp; omega⟩
  exact ⟨by simp, by simp; omega⟩

theorem dec_ok (l : List UInt8) : okR (dec l).1 := by
  have b0 := byt_lt l 0
  have b1 := byt_lt l 1
  unfold dec okR
  split
  · simp; omega
  split
  · split
    · simp; omega
    · simp
  split
  · split
    · simp; omega
    · simp
  split
  · split
    · simp; omega
    · simp
  simp

/-- The characters of bytes, at most so many. -/
def runesF : Nat → List UInt8 → List Int
  | 0, _ => []
  | f + 1, l => if l.length = 0 then [] else ((dec l).1 : Int) :: runesF f (l.drop (dec l).2)
/-- The characters of bytes. -/
def runes (l : List UInt8) : List Int := runesF l.length l

theorem runesF_fuel : ∀ (f g : Nat) (l : List UInt8), l.length ≤ f → l.length ≤ g → runesF f l = runesF g l
  | 0, 0, l, _, _ => rfl
  | 0, g + 1, l, h, _ => by
    have : l.length = 0 := by omega
    simp [runesF, this]
  | f + 1, 0, l, _, h => by
    have : l.length = 0 := by omega
    simp [runesF, this]
  | f + 1, g + 1, l, hf, hg => by
    unfold runesF
    by_cases h0 : l.length = 0
    · rw [if_pos h0, if_pos h0]
    · have hw := dec_width (l := l) (by omega)
      rw [if_neg h0, if_neg h0, runesF_fuel f g _ (by rw [List.length_drop]; omega) (by rw [List.length_drop]; omega)]

theorem runes_nil : runes [] = [] := rfl
theorem runes_step {l : List UInt8} (h : 0 < l.length) : runes l = ((dec l).1 : Int) :: runes (l.drop (dec l).2) := by
  have hw := dec_width h
  obtain ⟨m, hm⟩ : ∃ m, l.length = m + 1 := ⟨l.length - 1, by omega⟩
  unfold runes
  rw [hm]
  conv => lhs; unfold runesF
  rw [if_neg (by omega), runesF_fuel m _ _ (by rw [List.length_drop]; omega) (Nat.le_refl _)]

theorem runes_ok : ∀ (n : Nat) (l : List UInt8), l.length ≤ n → ∀ r ∈ runes l, okR r
  | 0, l, h => by
    have : l = [] := List.eq_nil_of_length_eq_zero (by omega)
    subst this
    intro r hr
    cases hr
  | n + 1, l, h => by
    intro r hr
    by_cases h0 : l.length = 0
    · have : l = [] := List.eq_nil_of_length_eq_zero h0
      subst this
      cases hr
    · have hw := dec_width (l := l) (by omega)
      rw [runes_step (by omega)] at hr
      rcases List.mem_cons.1 hr with rfl | hr
      · exact dec_ok l
      · exact runes_ok n _ (by rw [List.length_drop]; omega) r hr

theorem runes_len : ∀ (n : Nat) (l : List UInt8), l.length ≤ n → (runes l).length ≤ l.length
  | 0, l, h => by
    have : l = [] := List.eq_nil_of_length_eq_zero (by omega)
    subst this
    simp [runes_nil]
  | n + 1, l, h => by
    by_cases h0 : l.length = 0
    · have : l = [] := List.eq_nil_of_length_eq_zero h0
      subst this
      simp [runes_nil]
    · have hw := dec_width (l := l) (by omega)
      rw [runes_step (by omega)]
      have := runes_len n (l.drop (dec l).2) (by rw [List.length_drop]; omega)
      rw [List.length_drop] at this
      simp
      omega

/-- The bytes of characters. -/
def enc (l : List Int) : List UInt8 := l.flatMap Lib.encodeRune

theorem enc_nil : enc [] = [] := rfl
theorem enc_cons (r : Int) (l : List Int) : enc (r :: l) = Lib.encodeRune r ++ enc l := by simp [enc]
theorem enc_append (a b : List Int) : enc (a ++ b) = enc a ++ enc b := by simp [enc]

theorem dec_enc {r : Int} (h : okR r) (t : List UInt8) : dec (Lib.encodeRune r ++ t) = (r.toNat, (Lib.encodeRune r).length) := by
  unfold okR at h
  have hb : ∀ x : Int, 0 ≤ x → x < 256 → x.toNat.toUInt8.toNat = x.toNat := by
    intro x h0 h1
    simp
    omega
  by_cases h1 : r ≤ 127
  · have e : Lib.encodeRune r = [r.toNat.toUInt8] := by unfold Lib.encodeRune; rw [Lib.encodeRuneZ_one (by omega) h1]; rfl
    rw [e]
    have b0 : byt ([r.toNat.toUInt8] ++ t) 0 = r.toNat := by
      show r.toNat.toUInt8.toNat = _
      exact hb r (by omega) (by omega)
    unfold dec
    rw [b0, if_pos (by omega)]
    rfl
  by_cases h2 : r ≤ 2047
  · have e : Lib.encodeRune r = [(192 + r / 64).toNat.toUInt8, (128 + r % 64).toNat.toUInt8] := by unfold Lib.encodeRune; rw [Lib.encodeRuneZ_two (by omega) h2]; rfl
    rw [e]
    have b0 : byt ([(192 + r / 64).toNat.toUInt8, (128 + r % 64).toNat.toUInt8] ++ t) 0 = (192 + r / 64).toNat := hb _ (by omega) (by omega)
    have b1 : byt ([(192 + r / 64).toNat.toUInt8, (128 + r % 64).toNat.toUInt8] ++ t) 1 = (128 + r % 64).toNat := hb _ (by omega) (by omega)
    have c1 : cont ([(192 + r / 64).toNat.toUInt8, (128 + r % 64).toNat.toUInt8] ++ t) 1 = true := by
      unfold cont
      rw [b1]
      simp
      omega
    unfold dec
    rw [b0, b1, c1, if_neg (by omega), if_pos ⟨by omega, rfl⟩, if_pos (by omega)]
    simp
    omega
  by_cases h3 : r ≤ 65535
  · have e : Lib.encodeRune r = [(224 + r / 4096).toNat.toUInt8, (128 + r / 64 % 64).toNat.toUInt8, (128 + r % 64).toNat.toUInt8] := by unfold Lib.encodeRune; rw [Lib.encodeRuneZ_three (by omega)]; rfl
    rw [e]
    have b0 : byt ([(224 + r / 4096).toNat.toUInt8, (128 + r / 64 % 64).toNat.toUInt8, (128 + r % 64).toNat.toUInt8] ++ t) 0 = (224 + r / 4096).toNat := hb _ (by omega) (by omega)
    have b1 : byt ([(224 + r / 4096).toNat.toUInt8, (128 + r / 64 % 64).toNat.toUInt8, (128 + r % 64).toNat.toUInt8] ++ t) 1 = (128 + r / 64 % 64).toNat := hb _ (by omega) (by omega)
    have b2 : byt ([(224 + r / 4096).toNat.toUInt8, (128 + r / 64 % 64).toNat.toUInt8, (128 + r % 64).toNat.toUInt8] ++ t) 2 = (128 + r % 64).toNat := hb _ (by omega) (by omega)
    have c1 : cont ([(224 + r / 4096).toNat.toUInt8, (128 + r / 64 % 64).toNat.toUInt8, (128 + r % 64).toNat.toUInt8] ++ t) 1 = true := by
      unfold cont
      rw [b1]
      simp
      omega
    have c2 : cont ([(224 + r / 4096).toNat.toUInt8, (128 + r / 64 % 64).toNat.toUInt8, (128 + r % 64).toNat.toUInt8] ++ t) 2 = true := by
      unfold cont
      rw [b2]
      simp
      omega
    unfold dec
    rw [b0, b1, b2, c1, c2, if_neg (by omega), if_neg (by omega), if_pos ⟨by omega, rfl, rfl⟩, if_pos (by omega)]
    simp
    omega
  · have e : Lib.encodeRune r = [(240 + r / 262144).toNat.toUInt8, (128 + r / 4096 % 64).toNat.toUInt8, (128 + r / 64 % 64).toNat.toUInt8, (128 + r % 64).toNat.toUInt8] := by unfold Lib.encodeRune; rw [Lib.encodeRuneZ_four (by omega) (by omega)]; rfl
    rw [e]
    have b0 : byt ([(240 + r / 262144).toNat.toUInt8, (128 + r / 4096 % 64).toNat.toUInt8, (128 + r / 64 % 64).toNat.toUInt8, (128 + r % 64).toNat.toUInt8] ++ t) 0 = (240 + r / 262144).toNat := hb _ (by omega) (by omega)
    have b1 : byt ([(240 + r / 262144).toNat.toUInt8, (128 + r / 4096 % 64).toNat.toUInt8, (128 + r / 64 % 64).toNat.toUInt8, (128 + r % 64).toNat.toUInt8] ++ t) 1 = (128 + r / 4096 % 64).toNat := hb _ (by omega) (by omega)
    have b2 : byt ([(240 + r / 262144).toNat.toUInt8, (128 + r / 4096 % 64).toNat.toUInt8, (128 + r / 64 % 64).toNat.toUInt8, (128 + r % 64).toNat.toUInt8] ++ t) 2 = (128 + r / 64 % 64).toNat := hb _ (by omega) (by omega)
    have b3 : byt ([(240 + r / 262144).toNat.toUInt8, (128 + r / 4096 % 64).toNat.toUInt8, (128 + r / 64 % 64).toNat.toUInt8, (128 + r % 64).toNat.toUInt8] ++ t) 3 = (128 + r % 64).toNat := hb _ (by omega) (by omega)
    have c1 : cont ([(240 + r / 262144).toNat.toUInt8, (128 + r / 4096 % 64).toNat.toUInt8, (128 + r / 64 % 64).toNat.toUInt8, (128 + r % 64).toNat.toUInt8] ++ t) 1 = true := by
      unfold cont
      rw [b1]
      simp
      omega
    have c2 : cont ([(240 + r / 262144).toNat.toUInt8, (128 + r / 4096 % 64).toNat.toUInt8, (128 + r / 64 % 64).toNat.toUInt8, (128 + r % 64).toNat.toUInt8] ++ t) 2 = true := by
      unfold cont
      rw [b2]
      simp
      omega
    have c3 : cont ([(240 + r / 262144).toNat.toUInt8, (128 + r / 4096 % 64).toNat.toUInt8, (128 + r / 64 % 64).toNat.toUInt8, (128 + r % 64).toNat.toUInt8] ++ t) 3 = true := by
      unfold cont
      rw [b3]
      simp
      omega
    unfold dec
    rw [b0, b1, b2, b3, c1, c2, c3, if_neg (by omega), if_neg (by omega), if_neg (by omega), if_pos ⟨by omega, rfl, rfl, rfl⟩, if_pos (by omega)]
    simp
    omega

theorem runes_enc : ∀ l : List Int, (∀ r ∈ l, okR r) → runes (enc l) = l
  | [], _ => rfl
  | r :: l, h => by
    have hr := h r (by simp)
    have e := dec_enc hr (enc l)
    have hn : 0 ≤ r := by unfold okR at hr; omega
    rw [enc_cons, runes_step (by have := (Lib.encodeRuneZ_length r).1; simp [Lib.encodeRune]; omega), e]
    simp only [List.drop_left]
    rw [runes_enc l (fun x hx => h x (by simp [hx])), Int.toNat_of_nonneg hn]

/-- The characters made right; 'ahead': the one ahead of them. -/
def norm : Int → List Int → List Int
  | _, [] => []
  | a, r :: l => (if r = 13 then [10] else if r = 10 ∧ a = 13 then [] else if r = 0 then [65533] else [r]) ++ norm r l

/-- Is a character one that may stand in a right text? -/
def okN (r : Int) : Prop := okR r ∧ r ≠ 0 ∧ r ≠ 13

theorem norm_ok : ∀ (l : List Int) (a : Int), (∀ r ∈ l, okR r) → ∀ r ∈ norm a l, okN r
  | [], a, h => by simp [norm]
  | x :: l, a, h => by
    intro r hr
    unfold norm at hr
    rcases List.mem_append.1 hr with h1 | h1
    · have hx := h x (by simp)
      split at h1
      · simp at h1; subst h1; exact ⟨by unfold okR; omega, by omega, by omega⟩
      · split at h1
        · cases h1
        · split at h1
          · simp at h1; subst h1; exact ⟨by unfold okR; omega, by omega, by omega⟩
          · simp at h1; subst h1; exact ⟨hx, by assumption, by assumption⟩
    · exact norm_ok l x (fun y hy => h y (by simp [hy])) r h1

theorem norm_same : ∀ (l : List Int) (a : Int), a ≠ 13 → (∀ r ∈ l, okN r) → norm a l = l
  | [], a, _, _ => rfl
  | x :: l, a, ha, h => by
    have hx := h x (by simp)
    unfold norm
    rw [if_neg hx.2.2, if_neg (fun e => ha e.2), if_neg hx.2.1, norm_same l x hx.2.2 (fun y hy => h y (by simp [hy]))]
    rfl

/-- Bytes made right. -/
def right (l : List UInt8) : List UInt8 := enc (norm 0 (runes l))

theorem right_right (l : List UInt8) : right (right l) = right l := by
  have h := norm_ok (runes l) 0 (runes_ok _ l (Nat.le_refl _))
  unfold right
  rw [runes_enc _ (fun r hr => (h r hr).1), norm_same _ 0 (by omega) h]

theorem enc_len : ∀ l : List Int, (enc l).length ≤ 4 * l.length
  | [] => by simp [enc]
  | r :: l => by
    have := (Lib.encodeRuneZ_length r).2
    have ih := enc_len l
    rw [enc_cons, List.length_append, List.length_cons]
    have h : (Lib.encodeRune r).length = (Lib.encodeRuneZ r).length := by simp [Lib.encodeRune]
    omega

/-- Numbers that an int32 may have. -/
def i32s (l : List Int) : Prop := ∀ r ∈ l, -2147483648 ≤ r ∧ r ≤ 2147483647

theorem i32s_at {l : List Int} (h : i32s l) {k : Nat} {x : Int} (hx : l[k]? = some x) : -2147483648 ≤ x ∧ x ≤ 2147483647 := h x (List.mem_of_getElem? hx)

theorem drop_at {l : List Int} {k : Nat} {x : Int} (hx : l[k]? = some x) : l.drop k = x :: l.drop (k + 1) := by
  have hk := (List.getElem?_eq_some_iff.1 hx).1
  rw [List.drop_eq_getElem_cons hk]
  congr 1
  exact (List.getElem?_eq_some_iff.1 hx).2

theorem norm_len : ∀ (l : List Int) (a : Int), (norm a l).length ≤ l.length
  | [], a => by simp [norm]
  | r :: l, a => by
    have ih := norm_len l r
    unfold norm
    rw [List.length_append, List.length_cons]
    split
    · simp; omega
    · split
      · simp; omega
      · split
        · simp; omega
        · simp; omega

end Go.Proofs.Ytialfafjoemppaa

/- Part TreeM. -/
namespace Go.Proofs.Ytialfafjoemppaa
set_option linter.unusedVariables false

/-- A node: its kind, name, attributes, text, kids. -/
inductive Nd where
  | mk (kind : Int) (name : ByteArray) (attrs : List (ByteArray × ByteArray)) (text : ByteArray) (kids : List Nd)

def Nd.kind : Nd → Int | .mk k _ _ _ _ => k
def Nd.name : Nd → ByteArray | .mk _ n _ _ _ => n
def Nd.attrs : Nd → List (ByteArray × ByteArray) | .mk _ _ a _ _ => a
def Nd.text : Nd → ByteArray | .mk _ _ _ t _ => t
def Nd.kids : Nd → List Nd | .mk _ _ _ _ k => k
theorem Nd.eta (n : Nd) : Nd.mk n.kind n.name n.attrs n.text n.kids = n := by cases n; rfl

/-! ### sizes -/
/-- How much attributes take: 10 for each, and their bytes. -/
def szA : List (ByteArray × ByteArray) → Nat
  | [] => 0
  | a :: l => 10 + a.1.size + a.2.size + szA l
mutual
/-- How much a node takes: 10, its bytes, its attributes, its kids. -/
def szN : Nd → Nat
  | .mk _ n a t k => 10 + n.size + t.size + szA a + szL k
def szL : List Nd → Nat
  | [] => 0
  | n :: l => szN n + szL l
end

theorem szN_eq (n : Nd) : szN n = 10 + n.name.size + n.text.size + szA n.attrs + szL n.kids := by cases n; simp [szN, Nd.name, Nd.text, Nd.attrs, Nd.kids]
theorem szL_cons (n : Nd) (l : List Nd) : szL (n :: l) = szN n + szL l := by simp [szL]
theorem szL_nil : szL [] = 0 := by simp [szL]
theorem szL_append : ∀ (a b : List Nd), szL (a ++ b) = szL a + szL b
  | [], b => by simp [szL]
  | x :: a, b => by rw [List.cons_append, szL_cons, szL_cons, szL_append a b]; omega
theorem szA_append : ∀ (a b : List (ByteArray × ByteArray)), szA (a ++ b) = szA a + szA b
  | [], b => by simp [szA]
  | x :: a, b => by rw [List.cons_append, szA, szA, szA_append a b]; omega
theorem szL_at : ∀ {l : List Nd} {j : Nat} {n : Nd}, l[j]? = some n → szN n ≤ szL l
  | [], j, n, h => by simp at h
  | x :: l, 0, n, h => by
    simp at h
    subst h
    rw [szL_cons]
    omega
  | x :: l, j + 1, n, h => by
    have := szL_at (l := l) (j := j) (n := n) (by simpa using h)
    rw [szL_cons]
    omega
theorem szL_kids {l : List Nd} {j : Nat} {n : Nd} (h : l[j]? = some n) : szL n.kids < szL l := by
  have := szL_at h
  rw [szN_eq] at this
  omega
theorem szL_len : ∀ l : List Nd, 10 * l.length ≤ szL l
  | [] => by simp [szL]
  | n :: l => by
    have := szL_len l
    rw [szL_cons, szN_eq, List.length_cons]
    omega
theorem szA_len : ∀ l : List (ByteArray × ByteArray), 10 * l.length ≤ szA l
  | [] => by simp [szA]
  | n :: l => by
    have := szA_len l
    rw [szA, List.length_cons]
    omega
theorem szA_at : ∀ {l : List (ByteArray × ByteArray)} {j : Nat} {x : ByteArray × ByteArray}, l[j]? = some x → x.1.size + x.2.size + 10 ≤ szA l
  | [], j, x, h => by simp at h
  | y :: l, 0, x, h => by
    simp at h
    subst h
    rw [szA]
    omega
  | y :: l, j + 1, x, h => by
    have := szA_at (l := l) (j := j) (x := x) (by simpa using h)
    rw [szA]
    omega

/-- Induction over nodes: all kids' lists come ahead. -/
theorem nd_ind {P : List Nd → Prop} (h : ∀ l : List Nd, (∀ (j : Nat) (n : Nd), l[j]? = some n → P n.kids) → P l) : ∀ l, P l := by
  have key : ∀ (k : Nat) (l : List Nd), szL l ≤ k → P l := by
    intro k
    induction k with
    | zero =>
      intro l hl
      refine h l fun j n hj => ?_
      have := szL_kids hj
      omega
    | succ k ih =>
      intro l hl
      refine h l fun j n hj => ih _ ?_
      have := szL_kids hj
      omega
  exact fun l => key _ l (Nat.le_refl _)

/-! ### merged -/
/-- A text behind a list's last node is one with it, if that is a text. -/
def mglue (l : List Nd) (x : ByteArray) : List Nd :=
  match l.getLast? with
  | some n => l.dropLast ++ [.mk n.kind n.name n.attrs (n.text ++ x) n.kids]
  | none => []
def lastText (l : List Nd) : Bool := match l.getLast? with | some n => n.kind == 2 | none => false
def mstep (out : List Nd) (n : Nd) : List Nd :=
  if n.kind = 2 ∧ n.text.data.toList = [] then out else if n.kind = 2 ∧ lastText out = true then mglue out n.text else out ++ [n]
def mergeB (l : List Nd) : List Nd := l.foldl mstep []

theorem mglue_snoc (l : List Nd) (n : Nd) (x : ByteArray) : mglue (l ++ [n]) x = l ++ [.mk n.kind n.name n.attrs (n.text ++ x) n.kids] := by simp [mglue]
theorem lastText_snoc (l : List Nd) (n : Nd) : lastText (l ++ [n]) = (n.kind == 2) := by simp [lastText]
theorem snoc_of {α : Type} {l : List α} (h : 0 < l.length) : ∃ m x, l = m ++ [x] := by
  rcases List.eq_nil_or_concat l with rfl | ⟨m, x, hx⟩
  · simp at h
  · exact ⟨m, x, by rw [hx]; simp⟩

theorem szN_mk (k : Int) (n : ByteArray) (a : List (ByteArray × ByteArray)) (t : ByteArray) (ks : List Nd) : szN (.mk k n a t ks) = 10 + n.size + t.size + szA a + szL ks := by simp [szN]

theorem mstep_sz (out : List Nd) (n : Nd) : szL (mstep out n) ≤ szL out + szN n := by
  unfold mstep
  split
  · omega
  · split
    · rename_i h
      rcases Nat.eq_zero_or_pos out.length with h0 | h0
      · have : out = [] := List.eq_nil_of_length_eq_zero h0
        subst this
        simp [lastText] at h
      · obtain ⟨m, x, rfl⟩ := snoc_of h0
        have e1 := szN_eq x
        have e2 := szN_eq n
        rw [mglue_snoc, szL_append, szL_append, szL_cons, szL_cons, szL_nil, szN_mk, ByteArray.size_append]
        omega
    · rw [szL_append, szL_cons, szL_nil]
      omega
theorem merge_sz (l : List Nd) : szL (mergeB l) ≤ szL l := by
  unfold mergeB
  have key : ∀ (l : List Nd) (out : List Nd), szL (l.foldl mstep out) ≤ szL out + szL l := by
    intro l
    induction l with
    | nil => intro out; simp
    | cons n l ih =>
      intro out
      have := ih (mstep out n)
      have := mstep_sz out n
      rw [List.foldl_cons, szL_cons]
      omega
  have := key l []
  rw [szL_nil] at this
  omega

end Go.Proofs.Ytialfafjoemppaa

/- Part Tree. -/
namespace Go.Proofs.Ytialfafjoemppaa
open Go.RowKit
set_option linter.unusedVariables false

/-! ### rows of cells, in blocks of a kind -/
/-- The slice with address A holds the cells xs; they lie in a block of S. -/
def Cells (S : Nat → Prop) (w : World) (A : Option Addr) (xs : List Value) : Prop :=
  0 < xs.length → ∃ b o, A = some ⟨b, o, none⟩ ∧ S b ∧ ∀ j u, xs[j]? = some u → w.cell? ⟨b, o + j, none⟩ = some u

/-- Two worlds hold the same cells in the blocks of S. -/
def Kept (S : Nat → Prop) (w w' : World) : Prop := ∀ b, S b → ∀ j, w'.cell? ⟨b, j, none⟩ = w.cell? ⟨b, j, none⟩

theorem Kept.below {S : Nat → Prop} {w w' : World} (hb : Below w.heap.size w w') (hS : ∀ b, S b → b < w.heap.size) : Kept S w w' := fun b hs j => hb.cell (p := ⟨b, j, none⟩) (hS b hs)
theorem Kept.belowB {S : Nat → Prop} {w w' : World} {B : Nat} (hb : Below B w w') (hS : ∀ b, S b → b < B) : Kept S w w' := fun b hs j => hb.cell (p := ⟨b, j, none⟩) (hS b hs)
theorem Kept.grown {S : Nat → Prop} {w w' : World} {row : Option Nat} (hg : w.grownBy w' row) (hS : ∀ b, S b → b < w.heap.size ∧ some b ≠ row) : Kept S w w' :=
  fun b hs j => World.cell?_of_block (a := ⟨b, j, none⟩) (hg.block b (hS b hs).1 (hS b hs).2)
theorem Kept.mono {S S' : Nat → Prop} {w w' : World} (h : Kept S' w w') (hS : ∀ b, S b → S' b) : Kept S w w' := fun b hs => h b (hS b hs)
theorem Kept.trans {S : Nat → Prop} {w w' w'' : World} (h : Kept S w w') (h' : Kept S w' w'') : Kept S w w'' := fun b hs j => (h' b hs j).trans (h b hs j)
theorem Kept.refl (S : Nat → Prop) (w : World) : Kept S w w := fun _ _ _ => rfl

theorem Cells.nil (S : Nat → Prop) (w : World) (A : Option Addr) : Cells S w A [] := fun h => absurd h (by simp)
theorem Cells.keep {S : Nat → Prop} {w w' : World} {A : Option Addr} {xs : List Value} (h : Cells S w A xs) (hk : Kept S w w') : Cells S w' A xs := by
  intro hx
  obtain ⟨b, o, hA, hb, hc⟩ := h hx
  exact ⟨b, o, hA, hb, fun j u hu => (hk b hb _).trans (hc j u hu)⟩
theorem Cells.mono {S S' : Nat → Prop} {w : World} {A : Option Addr} {xs : List Value} (h : Cells S w A xs) (hS : ∀ b, S b → S' b) : Cells S' w A xs := by
  intro hx
  obtain ⟨b, o, hA, hb, hc⟩ := h hx
  exact ⟨b, o, hA, hS b hb, hc⟩
theorem Cells.take {S : Nat → Prop} {w : World} {A : Option Addr} {xs : List Value} (h : Cells S w A xs) (n : Nat) : Cells S w A (xs.take n) := by
  intro hx
  obtain ⟨b, o, hA, hb, hc⟩ := h (by rw [List.length_take] at hx; omega)
  refine ⟨b, o, hA, hb, fun j u hu => hc j u ?_⟩
  rw [List.getElem?_take] at hu
  split at hu
  · exact hu
  · cases hu
/-- What the call owns can be read, in its own block. -/
theorem Cells.own {w : World} {base size : Nat} {e : TypeId} {A : Option Addr} {n c : Nat} {xs : List Value} (h : w.ownsRow base e size (.slice A n c) n xs) : Cells (fun b => (Value.slice A n c).ownBlock = some b) w A xs := by
  intro hx
  rcases h.2 with ⟨_, h0⟩ | ⟨g, cap, cur, hv, hg, hh, hnc, hcm, hcs, hct⟩
  · have := h.1
    rw [h0] at this
    simp at this
    rw [this] at hx
    simp at hx
  · have hA : A = some ⟨g, 0, none⟩ := by injection hv
    have hc : c = cap := by injection hv
    subst hA
    subst hc
    refine ⟨g, 0, rfl, rfl, fun j u hu => ?_⟩
    rw [Nat.zero_add]
    have hj : j < n * size := by rw [← h.1]; exact (List.getElem?_eq_some_iff.1 hu).1
    rw [h.cellAt j hj]
    exact hu

/-! ### attributes -/
def acells (l : List (ByteArray × ByteArray)) : List Value := l.flatMap fun a => [.string a.1, .string a.2]
theorem acells_nil : acells [] = [] := rfl
theorem acells_append (a b : List (ByteArray × ByteArray)) : acells (a ++ b) = acells a ++ acells b := by simp [acells]
theorem acells_cons (a : ByteArray × ByteArray) (l : List (ByteArray × ByteArray)) : acells (a :: l) = .string a.1 :: .string a.2 :: acells l := by simp [acells]
theorem acells_length : ∀ l, (acells l).length = l.length * 2
  | [] => rfl
  | a :: l => by rw [acells_cons, List.length_cons, List.length_cons, acells_length l, List.length_cons]; omega
theorem acells_at : ∀ {l : List (ByteArray × ByteArray)} {k : Nat} {x : ByteArray × ByteArray}, l[k]? = some x → (acells l)[k * 2]? = some (.string x.1) ∧ (acells l)[k * 2 + 1]? = some (.string x.2)
  | [], k, x, h => by simp at h
  | a :: l, 0, x, h => by
    simp at h
    subst h
    rw [acells_cons]
    exact ⟨rfl, rfl⟩
  | a :: l, k + 1, x, h => by
    have := acells_at (l := l) (k := k) (x := x) (by simpa using h)
    rw [acells_cons, show (k + 1) * 2 = k * 2 + 1 + 1 by omega]
    simpa using this

def AttrsAt (S : Nat → Prop) (w : World) (l : List (ByteArray × ByteArray)) (v : Value) : Prop :=
  ∃ A c, v = .slice A l.length c ∧ l.length ≤ c ∧ Cells S w A (acells l)
theorem AttrsAt.keep {S : Nat → Prop} {w w' : World} {l : List (ByteArray × ByteArray)} {v : Value} (h : AttrsAt S w l v) (hk : Kept S w w') : AttrsAt S w' l v := by
  obtain ⟨A, c, hv, hc, hx⟩ := h
  exact ⟨A, c, hv, hc, hx.keep hk⟩
theorem AttrsAt.mono {S S' : Nat → Prop} {w : World} {l : List (ByteArray × ByteArray)} {v : Value} (h : AttrsAt S w l v) (hS : ∀ b, S b → S' b) : AttrsAt S' w l v := by
  obtain ⟨A, c, hv, hc, hx⟩ := h
  exact ⟨A, c, hv, hc, hx.mono hS⟩
theorem AttrsAt.nil (S : Nat → Prop) (w : World) : AttrsAt S w [] (.slice none 0 0) := ⟨none, 0, rfl, Nat.le_refl _, Cells.nil _ _ _⟩
/-- An attribute's two cells. -/
theorem AttrsAt.at_ {S : Nat → Prop} {w : World} {l : List (ByteArray × ByteArray)} {v : Value} (h : AttrsAt S w l v) (hl : 0 < l.length) :
    ∃ b o c, v = .slice (some ⟨b, o, none⟩) l.length c ∧ l.length ≤ c ∧ S b ∧ ∀ k x, l[k]? = some x → w.cell? ⟨b, o + k * 2, none⟩ = some (.string x.1) ∧ w.cell? ⟨b, o + k * 2 + 1, none⟩ = some (.string x.2) := by
  obtain ⟨A, c, hv, hc, hx⟩ := h
  obtain ⟨b, o, rfl, hS, hcell⟩ := hx (by rw [acells_length]; omega)
  refine ⟨b, o, c, hv, hc, hS, fun k x hk => ?_⟩
  have := acells_at hk
  exact ⟨hcell _ _ this.1, by rw [Nat.add_assoc]; exact hcell _ _ this.2⟩

/-! ### nodes -/
/-- A node with the values of its two lists. -/
structure Rn where
  n : Nd
  va : Value
  vk : Value

def ncells1 (r : Rn) : List Value := [.int .i64 r.n.kind, .string r.n.name, r.va, .string r.n.text, r.vk]
def ncells (R : List Rn) : List Value := R.flatMap ncells1
theorem ncells_nil : ncells [] = [] := rfl
theorem ncells_append (a b : List Rn) : ncells (a ++ b) = ncells a ++ ncells b := by simp [ncells]
theorem ncells_cons (r : Rn) (R : List Rn) : ncells (r :: R) = .int .i64 r.n.kind :: .string r.n.name :: r.va :: .string r.n.text :: r.vk :: ncells R := by simp [ncells, ncells1]
theorem ncells_length : ∀ R, (ncells R).length = R.length * 5
  | [] => rfl
  | r :: R => by rw [ncells_cons]; simp only [List.length_cons]; rw [ncells_length R]; omega
theorem ncells_at : ∀ {R : List Rn} {k : Nat} {r : Rn}, R[k]? = some r → (ncells R)[k * 5]? = some (.int .i64 r.n.kind) ∧ (ncells R)[k * 5 + 1]? = some (.string r.n.name) ∧ (ncells R)[k * 5 + 2]? = some r.va ∧ (ncells R)[k * 5 + 3]? = some (.string r.n.text) ∧ (ncells R)[k * 5 + 4]? = some r.vk
  | [], k, r, h => by simp at h
  | a :: R, 0, r, h => by
    simp at h
    subst h
    rw [ncells_cons]
    exact ⟨rfl, rfl, rfl, rfl, rfl⟩
  | a :: R, k + 1, r, h => by
    have := ncells_at (R := R) (k := k) (r := r) (by simpa using h)
    rw [ncells_cons, show (k + 1) * 5 = k * 5 + 1 + 1 + 1 + 1 + 1 by omega]
    simpa using this

/-- The slice v holds the nodes l, with all that hangs on them, in blocks of S. -/
inductive Tree (S : Nat → Prop) (w : World) : List Nd → Value → Prop
  | mk (R : List Rn) (l : List Nd) (A : Option Addr) (c : Nat) (hl : R.map Rn.n = l) (hc : l.length ≤ c) (hcell : Cells S w A (ncells R))
      (hat : ∀ r ∈ R, AttrsAt S w r.n.attrs r.va) (hk : ∀ r ∈ R, Tree S w r.n.kids r.vk) : Tree S w l (.slice A l.length c)

theorem Tree.keep {S : Nat → Prop} {w w' : World} {l : List Nd} {v : Value} (h : Tree S w l v) (hk : Kept S w w') : Tree S w' l v := by
  induction h with
  | mk R l A c hl hc hcell hat hkids ih => exact .mk R l A c hl hc (hcell.keep hk) (fun r hr => (hat r hr).keep hk) ih
theorem Tree.mono {S S' : Nat → Prop} {w : World} {l : List Nd} {v : Value} (h : Tree S w l v) (hS : ∀ b, S b → S' b) : Tree S' w l v := by
  induction h with
  | mk R l A c hl hc hcell hat hkids ih => exact .mk R l A c hl hc (hcell.mono hS) (fun r hr => (hat r hr).mono hS) ih
theorem Tree.stay {w w' : World} {B : Nat} {l : List Nd} {v : Value} (h : Tree (· < B) w l v) (hb : Below B w w') : Tree (· < B) w' l v := h.keep (Kept.belowB hb fun _ h => h)
theorem Tree.nil (S : Nat → Prop) (w : World) : Tree S w [] (.slice none 0 0) := .mk [] [] none 0 rfl (Nat.le_refl _) (Cells.nil _ _ _) (by simp) (by simp)

/-- A node's cells, and what hangs on it. -/
structure NodeAt (S : Nat → Prop) (w : World) (b o : Nat) (n : Nd) (va vk : Value) : Prop where
  c0 : w.cell? ⟨b, o, none⟩ = some (.int .i64 n.kind)
  c1 : w.cell? ⟨b, o + 1, none⟩ = some (.string n.name)
  c2 : w.cell? ⟨b, o + 2, none⟩ = some va
  c3 : w.cell? ⟨b, o + 3, none⟩ = some (.string n.text)
  c4 : w.cell? ⟨b, o + 4, none⟩ = some vk
  at_ : AttrsAt S w n.attrs va
  kids : Tree S w n.kids vk

theorem Tree.shape {S : Nat → Prop} {w : World} {l : List Nd} {v : Value} (h : Tree S w l v) : ∃ A c, v = .slice A l.length c ∧ l.length ≤ c := by
  cases h with
  | mk R l A c hl hc hcell hat hkids => exact ⟨A, c, rfl, hc⟩

theorem Tree.open_ {S : Nat → Prop} {w : World} {l : List Nd} {v : Value} (h : Tree S w l v) (h0 : 0 < l.length) :
    ∃ b o c, v = .slice (some ⟨b, o, none⟩) l.length c ∧ l.length ≤ c ∧ S b ∧ ∀ k n, l[k]? = some n → ∃ va vk, NodeAt S w b (o + k * 5) n va vk := by
  cases h with
  | mk R l A c hl hc hcell hat hkids =>
    subst hl
    obtain ⟨b, o, rfl, hS, hx⟩ := hcell (by rw [ncells_length]; rw [List.length_map] at h0; omega)
    refine ⟨b, o, c, rfl, hc, hS, fun k n hn => ?_⟩
    rw [List.getElem?_map] at hn
    cases hr : R[k]? with
    | none => rw [hr] at hn; cases hn
    | some r =>
      rw [hr] at hn
      injection hn with hn
      subst hn
      have hm := List.mem_of_getElem? hr
      have ha := ncells_at hr
      refine ⟨r.va, r.vk, hx _ _ ha.1, ?_, ?_, ?_, ?_, hat r hm, hkids r hm⟩
      all_goals rw [Nat.add_assoc]
      · exact hx _ _ ha.2.1
      · exact hx _ _ ha.2.2.1
      · exact hx _ _ ha.2.2.2.1
      · exact hx _ _ ha.2.2.2.2

theorem Tree.take {S : Nat → Prop} {w : World} {l : List Nd} {A : Option Addr} {n c : Nat} (h : Tree S w l (.slice A n c)) (k : Nat) (hk : k ≤ l.length) : Tree S w (l.take k) (.slice A k c) := by
  cases h with
  | mk R l A c hl hc hcell hat hkids =>
    subst hl
    have hk' : k ≤ R.length := by simpa using hk
    have e : ncells (R.take k) = (ncells R).take (k * 5) := by
      have h1 : ncells R = ncells (R.take k) ++ ncells (R.drop k) := by rw [← ncells_append, List.take_append_drop]
      rw [h1, List.take_left' (by rw [ncells_length, List.length_take]; omega)]
    have hlen : (((R.take k).map Rn.n)).length = k := by rw [List.length_map, List.length_take]; omega
    have hb : ((R.take k).map Rn.n).length ≤ c := by rw [hlen]; rw [List.length_map] at hc; omega
    have := Tree.mk (S := S) (w := w) (R.take k) ((R.take k).map Rn.n) A c rfl hb (by rw [e]; exact hcell.take _)
      (fun r hr => hat r (List.mem_of_mem_take hr)) (fun r hr => hkids r (List.mem_of_mem_take hr))
    rw [hlen] at this
    rw [← List.map_take]
    exact this

/-! ### lists that the call itself makes -/
/-- The slice v holds the nodes l in a row of the call's own; what hangs on them lies in blocks of S, which that row's is not. -/
def OwnT (w : World) (base : Nat) (S : Nat → Prop) (l : List Nd) (v : Value) : Prop :=
  ∃ R : List Rn, R.map Rn.n = l ∧ w.ownsRow base 28 5 v R.length (ncells R) ∧ (∀ r ∈ R, AttrsAt S w r.n.attrs r.va) ∧ (∀ r ∈ R, Tree S w r.n.kids r.vk) ∧ ∀ g, v.ownBlock = some g → ¬ S g

theorem own_size {w : World} {base : Nat} {e : TypeId} {s : Nat} {v : Value} {n : Nat} {xs : List Value} (h : w.ownsRow base e s v n xs) : ∃ A c, v = .slice A n c ∧ n ≤ c := by
  rcases h.2 with ⟨hv, h0⟩ | ⟨g, cap, cur, hv, _, _, hn, _⟩
  · subst h0
    exact ⟨none, 0, hv, Nat.le_refl _⟩
  · exact ⟨some ⟨g, 0, none⟩, cap, hv, hn⟩

theorem OwnT.nil (w : World) (base : Nat) (S : Nat → Prop) : OwnT w base S [] (.slice none 0 0) := ⟨[], rfl, World.ownsRow_nil _ _ _ _, by simp, by simp, fun g hg => by cases hg⟩
theorem OwnT.tree {w : World} {base : Nat} {S : Nat → Prop} {l : List Nd} {v : Value} (h : OwnT w base S l v) : Tree (fun b => S b ∨ v.ownBlock = some b) w l v := by
  obtain ⟨R, rfl, hown, hat, hk, hS⟩ := h
  obtain ⟨A, c, rfl, hc⟩ := own_size hown
  have := Tree.mk (S := fun b => S b ∨ (Value.slice A R.length c).ownBlock = some b) (w := w) R (R.map Rn.n) A c rfl (by rw [List.length_map]; exact hc) ((Cells.own hown).mono fun b hb => .inr hb)
    (fun r hr => (hat r hr).mono fun b hb => .inl hb) (fun r hr => (hk r hr).mono fun b hb => .inl hb)
  rw [List.length_map] at this
  exact this
theorem OwnT.lt {w : World} {base : Nat} {S : Nat → Prop} {l : List Nd} {v : Value} (h : OwnT w base S l v) : ∀ g, v.ownBlock = some g → base ≤ g ∧ g < w.heap.size := by
  obtain ⟨R, rfl, hown, _⟩ := h
  intro g hg
  have := hown.lt g hg
  exact ⟨this.1, this.2⟩
theorem OwnT.shape {w : World} {base : Nat} {S : Nat → Prop} {l : List Nd} {v : Value} (h : OwnT w base S l v) : ∃ A c, v = .slice A l.length c ∧ l.length ≤ c := by
  obtain ⟨R, rfl, hown, _⟩ := h
  rw [List.length_map]
  exact own_size hown

/-- The law of append, and where the new row lies: where the old one lay, or behind all that was. -/
theorem run_append_new {w : World} (base : Nat) (t ty e : TypeId) (i : TypeInfo) (z : Value) (size bytes : Nat) (ht : Try.prog.underlying t = some (.slice e)) (hi : Try.prog.info? e = some i) (hz : i.zero = some z)
    (hsize : i.size = size) (hby : i.bytes = bytes) (hzs : z.cells.size = size) (hsz : 0 < size)
    (v : Value) (n : Nat) (xs : List Value) (hown : w.ownsRow base e size v n xs)
    (a : Addr) (m c : Nat) (news : List Value) (hl : news.length = m * size) (hnews : ∀ j u, news[j]? = some u → w.cell? (a.add j) = some u) (h1 : ∀ u ∈ news, u.oneCell' = true)
    (h63 : n + m ≤ maxLen) (hbytes : (n + m) * bytes ≤ 140737488355328) (hbase : base ≤ w.heap.size) :
    ∃ v' w', (Builtin.append_ #[t, t] ty #[v, .slice (some a) m c]).run Try.prog w = .ok v' w' ∧ w'.ownsRow base e size v' (n + m) (xs ++ news) ∧ w.grownBy w' v.ownBlock ∧ (v'.ownBlock = v.ownBlock ∨ ∀ g, v'.ownBlock = some g → w.heap.size ≤ g) := by
  have hx := hown.1
  rcases hown.2 with ⟨hv, h0⟩ | ⟨g, cap, cur, hv, hg, hh, hn, hcm, hcs, hct⟩
  · subst hv
    subst h0
    have hxs : xs = [] := by
      have := hown.1
      simp at this
      exact this
    subst hxs
    obtain ⟨v', w', hrun, hown', hgr, _⟩ := run_append_own (w := w) w.heap.size t ty e i z size bytes ht hi hz hsize hby hzs hsz (.slice none 0 0) 0 [] (World.ownsRow_nil _ _ _ _) a m c news hl hnews h1 h63 hbytes (Nat.le_refl _)
    exact ⟨v', w', hrun, own_more hown' hbase, hgr, .inr fun g hg => (hown'.lt g hg).1⟩
  · subst hv
    by_cases hfit : n + m ≤ cap
    · obtain ⟨w', hrun, r1, r2⟩ := run_append_fits (P := Try.prog) w base t ty e i size ht hi hsize g n cap xs hown a m c news hl hnews h1 hfit
      exact ⟨_, w', hrun, r1, r2, .inl rfl⟩
    · obtain ⟨v', w', hrun, r1, r2⟩ := run_append_arg_grows (P := Try.prog) w t ty e i z size bytes ht hi hz hsize hby hzs hsz ⟨g, 0, none⟩ n cap xs hx (hown.cells rfl) a m c news hl hnews (by omega) h63 hbytes
      exact ⟨v', w', hrun, own_more r1 hbase, ⟨r2.os, r2.tape, r2.output, r2.size, fun k hk _ => r2.block k hk (by simp)⟩, .inr fun g hg => (r1.lt g hg).1⟩

end Go.Proofs.Ytialfafjoemppaa
