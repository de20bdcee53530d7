/- Parts of the proof, in build order: TkC TkD Fold Prefix TkE TkF MdlA Tell TelP. -/
import Derived.Test.YtoidjkkjnhnbhaaK12
import Derived.Test.YtoidjkkjnhnbhaaK03
import Derived.Test.YtoidjkkjnhnbhaaK01
import Derived.WalkKit
import Derived.WalkSpells
import Derived.WalkLawsBesides
import Derived.Lib.Hide
import Derived.Laws.IdiomStrings
import Derived.Deep.QuietTactic
import Derived.BigQuiet
import Derived.Test.YtoidjkkjnhnbhaaK06
import Derived.Test.YtoidjkkjnhnbhaaK07
import Derived.RangeFuncNested
import Derived.RangeFuncBound
import Derived.RangeFuncCalls
import Derived.RangeFuncLeaves
import Derived.Shelf.Abstract
import Derived.Shelf.RegionOpen
import Derived.OwnWalkIn
import Derived.TacticsInMore
import Derived.LoopNIn
import Derived.LoopIn
import Derived.Test.YtoidjkkjnhnbhaaK02

/- Part TkC. -/
namespace Go.Proofs.Ytoidjkkjnhnbhaa
open Go.RowKit
set_option linter.unusedVariables false

/-- What a function value that is asked of a character says, in whatever world behind W0. -/
structure Asks (W0 : World) (g : FuncId) (free : Array Value) (q : Int → Bool) : Prop where
  ent : ∀ args w, (callFunc g args).run Try.prog w = .ok (.enter g args) w
  call : ∀ (r : Int) (W : World), okR r → Below W0.heap.size W0 W → Calls Try.prog g (#[.int .i32 r] ++ free) W fun e W' => e = .returned (.bool (q r)) ∧ Below W.heap.size W W'
/-- It tells of bytes what p tells: of those of 128 or more all the same. -/
structure Bytely (q : Int → Bool) (p : UInt8 → Bool) (hi : Bool) : Prop where
  lo : ∀ c : UInt8, c.toNat < 128 → q (c.toNat : Int) = p c
  hz : ∀ r : Int, 128 ≤ r → okR r → q r = hi
  hb : ∀ c : UInt8, 128 ≤ c.toNat → p c = hi

theorem bytely_named : Bytely tagZ tagC false := ⟨fun c _ => tagZ_byte c, fun r h _ => tagZ_hi h, fun c h => tagC_hi h⟩

/-- What among and outside hand back. -/
def Closed (g : FuncId) (s : ByteArray) (w : World) (e : Ending) (w' : World) : Prop :=
  ∃ b, e = .returned (.func (.func g) #[] #[.pointer (some ⟨b, 0, none⟩)]) ∧ b < w'.heap.size ∧ w'.cell? ⟨b, 0, none⟩ = some (.string s) ∧ Below w.heap.size w w'
end Go.Proofs.Ytoidjkkjnhnbhaa

/- Part TkD. -/
namespace Go.Proofs.Ytoidjkkjnhnbhaa
open Go.RowKit
set_option linter.unusedVariables false

theorem index_mem : ∀ (l : List UInt8) (c : UInt8), decide (0 ≤ Lib.indexByte l c) = l.contains c
  | [], c => rfl
  | b :: l, c => by
    have ih := index_mem l c
    have hge := Lib.indexByte_ge l c
    show decide (0 ≤ (if (b == c) = true then (0 : Int) else if (Lib.indexByte l c == -1) = true then -1 else Lib.indexByte l c + 1)) = _
    rw [List.contains_cons, ← ih]
    by_cases h : b = c
    · subst h
      simp
    · have h1 : (b == c) = false := by rw [beq_eq_false_iff_ne]; exact h
      have h2 : (c == b) = false := by rw [beq_eq_false_iff_ne]; exact fun e => h e.symm
      rw [h1, h2, Bool.false_or, if_neg (by decide)]
      by_cases h3 : Lib.indexByte l c = -1
      · rw [h3]; rfl
      · have : (Lib.indexByte l c == -1) = false := by rw [beq_eq_false_iff_ne]; exact h3
        rw [this, if_neg (by decide), decide_eq_true (by omega), decide_eq_true (by omega)]
theorem inZ_byte (l : List UInt8) {c : UInt8} (h : c.toNat < 128) : inZ l (c.toNat : Int) = l.contains c := by
  unfold inZ
  rw [decide_eq_true (show (c.toNat : Int) < 128 by omega), Bool.true_and, ← index_mem]
  have : (c.toNat : Int).toNat.toUInt8 = c := by simp
  rw [this]
theorem inZ_hi (l : List UInt8) {r : Int} (h : 128 ≤ r) : inZ l r = false := by
  unfold inZ
  rw [decide_eq_false (by omega), Bool.false_and]
theorem contains_hi {l : List UInt8} (hs : ∀ c ∈ l, c.toNat < 128) {c : UInt8} (h : 128 ≤ c.toNat) : l.contains c = false := by
  rw [← Bool.not_eq_true, List.contains_iff_mem]
  intro hc
  have := hs c hc
  omega
theorem bytely_among {l : List UInt8} (hs : ∀ c ∈ l, c.toNat < 128) : Bytely (inZ l) (fun c => l.contains c) false :=
  ⟨fun c h => inZ_byte l h, fun r h _ => inZ_hi l h, fun c h => contains_hi hs h⟩
theorem bytely_outside {l : List UInt8} (hs : ∀ c ∈ l, c.toNat < 128) : Bytely (fun r => !inZ l r) (fun c => !l.contains c) true :=
  ⟨fun c h => by rw [inZ_byte l h], fun r h _ => by rw [inZ_hi l h]; rfl, fun c h => by rw [contains_hi hs h]; rfl⟩
/-- What part hands back. -/
def Parted (p : UInt8 → Bool) (s : ByteArray) (w : World) (e : Ending) (w' : World) : Prop :=
  ∃ a b : ByteArray, e = .returned (.tuple #[.string a, .string b]) ∧ a.data.toList = s.data.toList.takeWhile p ∧ b.data.toList = s.data.toList.dropWhile p ∧ Below w.heap.size w w'

structure PartAt (w : World) (s : ByteArray) (l : List UInt8) (p : UInt8 → Bool) (pos : Nat) (wr : World) : Prop where
  le : pos ≤ l.length
  it : wr.heap[w.heap.size]? = some (.stringIter s pos)
  bel : Below w.heap.size w wr
  ok : ∀ j (h : j < l.length), j < pos → p l[j] = true

end Go.Proofs.Ytoidjkkjnhnbhaa

/- Part Fold. -/
namespace Go.Proofs.Ytoidjkkjnhnbhaa
open Go.RowKit
set_option linter.unusedVariables false

set_option maxHeartbeats 400000 in
theorem small_any (u : UInt8) (w : World) :
    Calls Try.prog 103 #[.int .u8 u.toNat] w fun e w' => e = .returned (.int .u8 (lowB u).toNat) ∧ w = w' := by
  have hl := lowB_toNat u
  have hb := u.toNat_lt
  by_cases h1 : 65 ≤ u.toNat
  · by_cases h2 : u.toNat ≤ 90
    · have hl' : ((u.toNat : Int) + 32) = ((lowB u).toNat : Int) := by rw [hl, if_pos ⟨h1, h2⟩]; omega
      have HL := Lib.hid hl'
      clear hl hl'
      go_enter Try.func103, Try.ntmps103
      go_wp2
      go_ret
      exact ⟨ret_int HL.out, rfl⟩
    · have hl' : (u.toNat : Int) = ((lowB u).toNat : Int) := by rw [hl, if_neg (by omega)]
      have HL := Lib.hid hl'
      clear hl hl'
      go_enter Try.func103, Try.ntmps103
      go_wp2
      go_ret
      exact ⟨ret_int HL.out, rfl⟩
  · have hl' : (u.toNat : Int) = ((lowB u).toNat : Int) := by rw [hl, if_neg (by omega)]
    have HL := Lib.hid hl'
    clear hl hl'
    go_enter Try.func103, Try.ntmps103
    go_wp2
    go_ret
    exact ⟨ret_int HL.out, rfl⟩

/-- What holds of the row of bytes after k rounds: the first k are small. -/
def FoldRow (w : World) (B : Nat) (l : List UInt8) (k : Nat) : Prop :=
  ∀ j, (h : j < l.length) → w.cell? ⟨B, j, none⟩ = some (.int .u8 (if j < k then lowB l[j] else l[j]).toNat) ∧ w.frozen? ⟨B, j, none⟩ = false

theorem FoldRow.step {w : World} {B : Nat} {l : List UInt8} {k : Nat} (h : FoldRow w B l k) (hk : k < l.length) :
    FoldRow (w.setCell ⟨B, k, none⟩ (.int .u8 (lowB l[k]).toNat)) B l (k + 1) := by
  intro j hj
  obtain ⟨hc, hf⟩ := h j hj
  by_cases hjk : j = k
  · subst hjk
    refine ⟨?_, by rw [World.frozen?_setCell]; exact hf⟩
    rw [if_pos (by omega)]
    exact World.cell?_setCell_same _ _ _ hc
  · refine ⟨?_, by rw [World.frozen?_setCell]; exact hf⟩
    rw [World.cell?_setCell_other _ _ _ _ (by intro e; injection e; omega), hc]
    by_cases h1 : j < k
    · rw [if_pos h1, if_pos (by omega)]
    · rw [if_neg h1, if_neg (by omega)]

theorem FoldRow.start (w : World) (s : ByteArray) (cap : Nat) :
    FoldRow (w.alloc (.cells (bytesRow s cap) 5 ((bytesRow s cap).size, (bytesRow s cap).size + 1))).drew w.heap.size s.data.toList 0 := by
  intro j hj
  have hj' : j < s.data.size := by simpa using hj
  refine ⟨?_, ?_⟩
  · rw [if_neg (by omega)]
    show (w.alloc _).cell? _ = _
    rw [World.cell?_alloc_mark, bytesRow_at s cap j hj']
    simp
  · show (w.alloc _).frozen? _ = _
    rw [World.frozen?_alloc_mark]
    have : j < (bytesRow s cap).size := by
      rcases Nat.lt_or_ge j (bytesRow s cap).size with h | h
      · exact h
      · have := bytesRow_at s cap j hj'
        rw [Array.getElem?_eq_none h] at this
        cases this
    simp
    omega

theorem FoldRow.done {w : World} {B : Nat} {l : List UInt8} (h : FoldRow w B l l.length) :
    ∀ j (hj : j < (l.map lowB).length), w.cell? ((⟨B, 0, none⟩ : Addr).add j) = some (.int .u8 (((l.map lowB)[j]).toNat : Int)) := by
  intro j hj
  have hj' : j < l.length := by simpa using hj
  have := (h j hj').1
  rw [if_pos hj'] at this
  rw [add_zero_addr, this]
  simp

end Go.Proofs.Ytoidjkkjnhnbhaa

/- Part Prefix. -/
namespace Go.Proofs.Ytoidjkkjnhnbhaa
open Go.RowKit
set_option linter.unusedVariables false

/-- Do the first bytes of l, made small, make up the word? -/
def prefB (l word : List UInt8) : Bool := decide ((l.map lowB).take word.length = word)

theorem prefB_short {l word : List UInt8} (h : l.length < word.length) : prefB l word = false := by
  unfold prefB
  rw [decide_eq_false_iff_not]
  intro e
  have := congrArg List.length e
  simp at this
  omega

theorem prefB_no {l word : List UInt8} {k : Nat} (h1 : k < l.length) (h2 : k < word.length) (h : lowB l[k] ≠ word[k]) : prefB l word = false := by
  unfold prefB
  rw [decide_eq_false_iff_not]
  intro e
  have e1 : ((l.map lowB).take word.length)[k]? = word[k]? := by rw [e]
  rw [List.getElem?_take_of_lt h2, List.getElem?_map, List.getElem?_eq_getElem h1, List.getElem?_eq_getElem h2] at e1
  exact h (by simpa using e1)

theorem prefB_yes {l word : List UInt8} (hl : word.length ≤ l.length) (h : ∀ j, (h2 : j < word.length) → lowB (l[j]'(by omega)) = word[j]) : prefB l word = true := by
  unfold prefB
  rw [decide_eq_true_iff]
  apply List.ext_getElem
  · simp; omega
  · intro i h1 h2
    simp
    exact h i h2

set_option maxHeartbeats 400000 in
theorem prefix_any (s word : ByteArray) (w : World) (hs : s.size ≤ maxLen) (hw : word.size ≤ maxLen) :
    Calls Try.prog 89 #[.string s, .string word] w fun e w' => e = .returned (.bool (prefB s.data.toList word.data.toList)) ∧ Below w.heap.size w w' := by
  unfold maxLen at hs hw
  have hsl : s.data.toList.length = s.size := by simp
  have hwl : word.data.toList.length = word.size := by simp
  by_cases hlen : s.size < word.size
  · have hp := Lib.hid (prefB_short (l := s.data.toList) (word := word.data.toList) (by omega))
    clear hsl hwl
    go_enter Try.func89, Try.ntmps89
    go_wp2
    go_ret
    exact ⟨by rw [hp.out]; rfl, Below.refl _ _⟩
  · go_enter Try.func89, Try.ntmps89
    go_wp2
    go_loopw [13] (fun i wr => ∃ k : Nat, k ≤ word.size ∧ i = .int .i64 k ∧ (∀ j, (h2 : j < k) → (h3 : k ≤ word.size) → lowB (s[j]'(by omega)) = word[j]'(by omega)) ∧ Below w.heap.size w wr) (fun i _ => word.size - (intOf i).toNat)
    case atStart => exact ⟨0, Nat.zero_le _, rfl, fun _ h => absurd h (by omega), Below.refl _ _⟩
    case round =>
      obtain ⟨k, hk, rfl, hall, hbel⟩ := hrel
      have HA := Lib.hid hall
      clear hall
      by_cases hlt : k < word.size
      · have hlt2 : k < s.size := by omega
        by_cases he : lowB s[k] = word[k]
        · have hne : (((lowB s[k]).toNat : Int) != (word[k].toNat : Int)) = false := by rw [he]; simp
          have HE := Lib.hid he
          clear he
          go_wp2_with fail
          go_quiet ((go_at_call 103; exact quiet_here (small_any _ _)))
          go_wp2
          go_roundw
          case rel =>
            refine ⟨k + 1, by omega, by go_num, fun j h2 h3 => ?_, below_drewN hbel _⟩
            by_cases hj : j < k
            · exact HA.out j hj (by omega)
            · obtain rfl : j = k := by omega
              exact HE.out
          case measure => simp [intOf]; omega
        · have hne : (((lowB s[k]).toNat : Int) != (word[k].toNat : Int)) = true := by
            rw [bne_iff_ne]
            intro e
            exact he (UInt8.toNat_inj.1 (by omega))
          have hp := Lib.hid (prefB_no (l := s.data.toList) (word := word.data.toList) (k := k) (by omega) (by omega) (by rw [at_data s k hlt2, at_data word k hlt]; exact he))
          clear he
          go_wp2_with fail
          go_quiet ((go_at_call 103; exact quiet_here (small_any _ _)))
          go_wp2
          go_ret
          exact ⟨by rw [hp.out]; rfl, below_drewN hbel _⟩
      · obtain rfl : k = word.size := by omega
        have hp := Lib.hid (prefB_yes (l := s.data.toList) (word := word.data.toList) (by omega) (fun j h2 => by rw [at_data s j (by omega), at_data word j (by omega)]; exact HA.out j (by omega) (by omega)))
        go_wp2
        go_ret
        exact ⟨by rw [hp.out]; rfl, hbel⟩

end Go.Proofs.Ytoidjkkjnhnbhaa

/- Part TkE. -/
namespace Go.Proofs.Ytoidjkkjnhnbhaa
open Go.RowKit
set_option linter.unusedVariables false

structure CalmAt (w : World) (s : ByteArray) (f : List UInt8 → Bool) (l : List UInt8) (pos : Nat) (wr : World) : Prop where
  le : pos ≤ l.length
  it : wr.heap[w.heap.size]? = some (.stringIter s pos)
  bel : Below w.heap.size w wr
  no : ∀ j, j < pos → f (l.drop j) = false

/-- What a search for a place hands back. -/
def Found (f : List UInt8 → Bool) (l : List UInt8) (w : World) (e : Ending) (w' : World) : Prop :=
  ∃ k : Nat, e = .returned (.int .i64 k) ∧ k ≤ l.length ∧ (∀ j, j < k → f (l.drop j) = false) ∧ (k < l.length → f (l.drop k) = true) ∧ Below w.heap.size w w'

set_option maxHeartbeats 400000 in
theorem over_any (s : ByteArray) (w : World) (hm : s.size ≤ 1000000) :
    Calls Try.prog 90 #[.string s] w fun e w' => e = .returned (.bool (match s.data.toList with | [] => false | c :: _ => blC c || decide (c = 47) || decide (c = 62))) ∧ Below w.heap.size w w' := by
  obtain ⟨l, hl⟩ : ∃ l, s.data.toList = l := ⟨_, rfl⟩
  have hsz : s.size = l.length := by rw [← hl]; simp
  have he := eqs s []
  rw [hl] at he ⊢
  cases l with
  | nil =>
    have B0 : (s.toList == []) = true := by rw [he]; rfl
    clear hl hsz he
    go_enter Try.func90, Try.ntmps90
    go_wp2_with fail
    go_ret
    exact ⟨rfl, Below.refl _ _⟩
  | cons c r =>
    have B0 : (s.toList == []) = false := by rw [he]; rfl
    have h1 : s.extract 0 1 = ⟨#[c]⟩ := by
      apply bytes_inj
      rw [take_extract, hl]
      rfl
    have hs1 : (1 : Int) ≤ (s.size : Int) := by rw [hsz, List.length_cons]; omega
    have h2 := Try.strings_Contains_one ⟨#[9, 10, 12, 32, 47, 62]⟩ c w
    have hF : (⟨#[9, 10, 12, 32, 47, 62]⟩ : ByteArray).data.toList.contains c = (blC c || decide (c = 47) || decide (c = 62)) := by
      have e : ∀ x y : UInt8, (x == y) = decide (x.toNat = y.toNat) := fun x y => by rw [Bool.eq_iff_iff, beq_iff_eq, decide_eq_true_eq, UInt8.toNat_inj]
      have e' : ∀ x y : UInt8, decide (x = y) = decide (x.toNat = y.toNat) := fun x y => by rw [decide_eq_decide, UInt8.toNat_inj]
      show ([9, 10, 12, 32, 47, 62] : List UInt8).contains c = _
      simp only [List.contains_cons, List.contains_nil, blC, e, e', Bool.or_false, Bool.or_assoc]
      rfl
    rw [index_mem, hF] at h2
    show Calls _ _ _ _ fun e w' => e = .returned (.bool (blC c || decide (c = 47) || decide (c = 62))) ∧ _
    obtain ⟨q, hq⟩ : ∃ q, (blC c || decide (c = 47) || decide (c = 62)) = q := ⟨_, rfl⟩
    rw [hq] at h2 ⊢
    have H := Lib.hid h2
    clear h2 hF hq
    clear hl hsz he
    go_enter Try.func90, Try.ntmps90
    go_wp2_with fail
    refine H.out.mono ?_
    rintro e w1 ⟨rfl, rfl⟩
    go_wp2_with fail
    go_ret
    exact ⟨rfl, Below.refl _ _⟩

end Go.Proofs.Ytoidjkkjnhnbhaa

/- Part TkF. -/
namespace Go.Proofs.Ytoidjkkjnhnbhaa
open Go.RowKit
set_option linter.unusedVariables false

def overB (l : List UInt8) : Bool := match l with | [] => false | c :: _ => blC c || decide (c = 47) || decide (c = 62)
theorem endAt_pre (nm l : List UInt8) : endAt nm l = (prefB l (60 :: 47 :: nm) && overB (l.drop (2 + nm.length))) := by
  unfold endAt prefB overB
  rw [List.map_take, show (60 :: 47 :: nm : List UInt8).length = 2 + nm.length by simp; omega]
  rfl
theorem prefB_len {l word : List UInt8} (h : prefB l word = true) : word.length ≤ l.length := by
  unfold prefB at h
  have := congrArg List.length (of_decide_eq_true h)
  rw [List.length_take, List.length_map] at this
  omega

/-- What a search for a raw element's end hands back. -/
def EndFound (nm l : List UInt8) (w : World) (e : Ending) (w' : World) : Prop :=
  ∃ z : Int, e = .returned (.int .i64 z) ∧ ((z = -1 ∧ cutEnd nm l = (l, [])) ∨ ∃ k : Nat, z = k ∧ k ≤ l.length ∧ cutEnd nm l = (l.take k, l.drop k)) ∧ Below w.heap.size w w'

set_option maxHeartbeats 4000000 in
set_option maxRecDepth 100000 in
theorem tkends_any (s nm : ByteArray) (w : World) (hm : s.size ≤ 1000000) (hn : nm.size ≤ 1000000) : Calls Try.prog 68 #[.string s, .string nm] w (EndFound nm.data.toList s.data.toList w) := by
  obtain ⟨l, hl⟩ : ∃ l, s.data.toList = l := ⟨_, rfl⟩
  have hsz : s.size = l.length := by rw [← hl]; simp
  have HSL := Lib.hid hl
  have HSZ := Lib.hid hsz
  rw [hl]
  clear hl hsz
  have hmz : (⟨#[60, 47]⟩ ++ nm : ByteArray).size = nm.size + 2 := by rw [ByteArray.size_append]; show 2 + nm.size = _; omega
  have hml : (⟨#[60, 47]⟩ ++ nm : ByteArray).data.toList = 60 :: 47 :: nm.data.toList := by rw [ByteArray.data_append, Array.toList_append]; rfl
  have hnl : nm.size = nm.data.toList.length := by simp
  have hov : ¬ ((9223372036854775807 : Int) < 2 + (nm.size : Int)) := by omega
  have hov2 : ¬ ((9223372036854775807 : Nat) < 2 + nm.size) := by omega
  have hov3 : ¬ ((9223372036854775807 : Nat) < nm.size + 2) := by omega
  have HMZ0 := Lib.hid hmz
  have HML0 := Lib.hid hml
  have HNL := Lib.hid hnl
  clear hmz hml hnl
  go_enter Try.func68, Try.ntmps68
  go_wp2_with fail
  obtain ⟨mk, hmk⟩ : ∃ mk : ByteArray, (⟨#[60, 47]⟩ ++ nm : ByteArray) = mk := ⟨_, rfl⟩
  rw [hmk] at HMZ0 HML0 ⊢
  have HML := HML0
  have HMZ := HMZ0
  have hmk2 : mk.size ≤ 1000002 := by have := HMZ.out; omega
  clear hmk hov hov2 hov3 HML0 HMZ0
  go_loopw [] (fun wr => ∃ pos : Nat, CalmAt w s (endAt nm.data.toList) l pos wr) (fun wr => s.size - wr.iterPos w.heap.size)
  case atStart => exact ⟨0, by omega, World.iter_heap w s 0, (Below.refl _ w).alloc (Nat.le_refl _) _, fun j h => by omega⟩
  case round =>
    obtain ⟨pos, HR⟩ := hrel
    have hle := HR.le
    have hit := HR.it
    have hbel := HR.bel
    by_cases hp : pos < l.length
    · have hps : pos < s.size := by rw [HSZ.out]; exact hp
      obtain ⟨r, d, hd⟩ : ∃ r d, dec (l.drop pos) = (r, d) := ⟨_, _, rfl⟩
      have hdec : Utf8.decode s pos = (r, d) := by rw [decode_dec, HSL.out, hd]
      have hnx : ∀ ty, (Instr.next (.pointer (some ⟨w.heap.size, 0, none⟩)) true ty).run Try.prog wr = .ok (.tuple #[.bool true, .int .i64 pos, .int .i32 r]) (wr.iterAt w.heap.size s (pos + d)) := fun ty => by
        rw [Lib.run_next_any_at wr w.heap.size s pos ty hit hps, hdec]
      obtain ⟨hd1, hd2, hok, hch⟩ := char_at hp hd
      have HCH := Lib.hid hch
      have hit2 := Lib.iterAt_heap wr w.heap.size s pos (pos + d) hit
      have hbw2 := Lib.below_iterAt hbel (k := w.heap.size) (Nat.le_refl _) s (pos + d)
      have HIT := Lib.hid hit
      have HIT2 := Lib.hid hit2
      have HLT := Lib.hid (show w.heap.size < (wr.iterAt w.heap.size s (pos + d)).heap.size from (Array.getElem?_eq_some_iff.1 hit2).1)
      have c2 : (pos : Int) ≤ (s.size : Int) := by omega
      by_cases h60 : r = 60
      · subst h60
        have hd1' : d = 1 := by rcases HCH.out with h | h <;> omega
        subst hd1'
        obtain ⟨q, hq⟩ : ∃ q, prefB (l.drop pos) (60 :: 47 :: nm.data.toList) = q := ⟨_, rfl⟩
        have hst := prefix_any (s.extract pos s.size) mk (wr.iterAt w.heap.size s (pos + 1)) (by unfold maxLen; rw [ByteArray.size_extract]; omega) (by unfold maxLen; omega)
        rw [drop_extract, HSL.out, HML.out, hq] at hst
        have HST := Lib.hid hst
        have HQ := Lib.hid hq
        clear hd hdec hch hit hit2 hok hst
        cases q with
        | true =>
          have hpl := prefB_len hq
          rw [List.length_drop, List.length_cons, List.length_cons, ← HNL.out] at hpl
          have hpl2 : pos + mk.size ≤ s.size := by rw [HMZ.out, HSZ.out]; omega
          obtain ⟨m, hm1⟩ : ∃ m, pos + mk.size = m := ⟨_, rfl⟩
          have hmi : IntKind.i64.wrap ((pos : Int) + (mk.size : Int)) = (m : Int) := by rw [IntWalk.i64_left, IntWalk.wrap64_in _ (by omega)]; omega
          have hmi2 : (m : Int) ≤ (s.size : Int) := by omega
          have hov := fun W => over_any (s.extract m s.size) W (by rw [ByteArray.size_extract]; omega)
          rw [drop_extract, HSL.out] at hov
          obtain ⟨v, hv⟩ : ∃ v, overB (l.drop m) = v := ⟨_, rfl⟩
          have hov2 : ∀ W, Calls Try.prog 90 #[.string (s.extract m s.size)] W fun e w' => e = .returned (.bool v) ∧ Below W.heap.size W w' := fun W => by
            rw [← hv]
            exact hov W
          have hE : endAt nm.data.toList (l.drop pos) = v := by
            rw [endAt_pre, HQ.out, Bool.true_and, List.drop_drop, ← hv, ← hm1, HMZ.out, HNL.out, Nat.add_comm 2]
          have HOV := Lib.hid hov2
          have HE := Lib.hid hE
          clear hq hpl hpl2 hm1 hov hov2 hv hE
          cases v with
          | true =>
            go_wp2_with fail
            refine HST.out.mono ?_
            rintro e w2 ⟨rfl, hb2⟩
            have hbw3 := below_after hbw2 hb2
            go_wp2_with fail
            refine (HOV.out _).mono ?_
            rintro e w3 ⟨rfl, hb3⟩
            have hbw4 := below_after hbw3 hb3
            go_wp2_with fail
            go_ret
            exact ⟨pos, rfl, .inr ⟨pos, rfl, hle, cutEnd_k _ l pos hle HR.no fun _ => HE.out⟩, hbw4⟩
          | false =>
            go_wp2_with fail
            refine HST.out.mono ?_
            rintro e w2 ⟨rfl, hb2⟩
            have hbw3 := below_after hbw2 hb2
            have hit3 : w2.heap[w.heap.size]? = some (.stringIter s (pos + 1)) := (hb2.block _ HLT.out).trans HIT2.out
            have hlt3 : w.heap.size < w2.heap.size := (Array.getElem?_eq_some_iff.1 hit3).1
            have HIT3 := Lib.hid hit3
            have HLT3 := Lib.hid hlt3
            clear hit3 hlt3
            go_wp2_with fail
            refine (HOV.out _).mono ?_
            rintro e w3 ⟨rfl, hb3⟩
            have hbw4 := below_after hbw3 hb3
            have HIT4 := Lib.hid (show w3.heap[w.heap.size]? = some (.stringIter s (pos + 1)) from (hb3.block _ HLT3.out).trans HIT3.out)
            go_wp2_with fail
            go_roundw
            case rel =>
              refine ⟨pos + 1, hd2, HIT4.out, hbw4, fun j hj => ?_⟩
              by_cases h : j < pos
              · exact HR.no j h
              · obtain rfl : j = pos := by omega
                exact HE.out
            case measure => simp only [World.iterPos, HIT4.out, HIT.out]; have := HSZ.out; omega
        | false =>
          have HE := Lib.hid (show endAt nm.data.toList (l.drop pos) = false by rw [endAt_pre, hq, Bool.false_and])
          clear hq
          go_wp2_with fail
          refine HST.out.mono ?_
          rintro e w2 ⟨rfl, hb2⟩
          have hbw3 := below_after hbw2 hb2
          have HIT3 := Lib.hid (show w2.heap[w.heap.size]? = some (.stringIter s (pos + 1)) from (hb2.block _ HLT.out).trans HIT2.out)
          go_wp2_with fail
          go_roundw
          case rel =>
            refine ⟨pos + 1, hd2, HIT3.out, hbw3, fun j hj => ?_⟩
            by_cases h : j < pos
            · exact HR.no j h
            · obtain rfl : j = pos := by omega
              exact HE.out
          case measure => simp only [World.iterPos, HIT3.out, HIT.out]; have := HSZ.out; omega
      · have hB : ((r : Int) == 60) = false := by rw [beq_eq_false_iff_ne]; omega
        clear hd hdec hch hit hit2 hok
        go_wp2_with fail
        go_roundw
        case rel =>
          refine ⟨pos + d, hd2, HIT2.out, hbw2, fun j hj => ?_⟩
          by_cases h : j < pos
          · exact HR.no j h
          · refine endAt_ne (by omega) ?_
            rcases HCH.out with h1 | h1
            · obtain rfl : j = pos := by omega
              omega
            · have := h1.2 j (by omega) (by omega) hj
              omega
        case measure => simp only [World.iterPos, HIT2.out, HIT.out]; have := HSZ.out; omega
    · have hps : ¬ pos < s.size := by rw [HSZ.out]; exact hp
      have hnx : ∀ ty, (Instr.next (.pointer (some ⟨w.heap.size, 0, none⟩)) true ty).run Try.prog wr = _ := fun ty => Lib.run_next_end_at wr w.heap.size s pos ty hit hps
      have hpl : pos = l.length := by omega
      subst hpl
      clear hps hit
      go_wp2_with fail
      go_ret
      refine ⟨-1, rfl, .inl ⟨rfl, ?_⟩, hbel⟩
      have := cutEnd_k nm.data.toList l l.length (Nat.le_refl _) HR.no (fun h => absurd h (Nat.lt_irrefl _))
      rw [List.take_length, List.drop_length] at this
      exact this

/-- What inside hands back. -/
def InFound (nm l : List UInt8) (w : World) (e : Ending) (w' : World) : Prop :=
  ∃ k : Nat, e = .returned (.int .i64 k) ∧ k ≤ l.length ∧ cutEnd nm l = (l.take k, l.drop k) ∧ Below w.heap.size w w'
end Go.Proofs.Ytoidjkkjnhnbhaa

/- Part MdlA. -/
namespace Go.Proofs.Ytoidjkkjnhnbhaa
open Go.RowKit Go.Maps
set_option linter.unusedVariables false

/-- A slice of these texts. -/
def TextsAt (w : World) (A : Option Addr) (Ls : List (List UInt8)) : Prop := ∀ (j : Nat) (x : List UInt8), Ls[j]? = some x → ∃ bx, A = some ⟨bx, 0, none⟩ ∧ w.cell? ⟨bx, j, none⟩ = some (.string (tB x))
structure SxAt (w wr : World) (Ls : List (List UInt8)) (b : List UInt8) (k : Nat) : Prop where
  le : k ≤ Ls.length
  no : ∀ j x, j < k → Ls[j]? = some x → x ≠ b
  bel : Below w.heap.size w wr
  cells : wr.heap = w.heap
def SxRel (w : World) (Ls : List (List UInt8)) (b : List UInt8) (x : Value) (wr : World) : Prop := ∃ k : Nat, x = .int .i64 k ∧ SxAt w wr Ls b k
theorem SxAt.done {w wr : World} {Ls : List (List UInt8)} {b : List UInt8} (h : SxAt w wr Ls b Ls.length) : Ls.any (fun x => decide (x = b)) = false := by
  rw [List.any_eq_false]
  intro x hx
  obtain ⟨j, hj, he⟩ := List.mem_iff_getElem.1 hx
  have := h.no j x hj (by rw [List.getElem?_eq_getElem hj, he])
  simpa using this
theorem cell_heap {W W' : World} (h : W'.heap = W.heap) (p : Addr) : W'.cell? p = W.cell? p := by unfold World.cell?; rw [h]

set_option maxHeartbeats 2000000 in
set_option maxRecDepth 100000 in
theorem sindex_any (Ls : List (List UInt8)) (A : Option Addr) (c : Nat) (b : ByteArray) (w : World) (hT : TextsAt w A Ls) (hz : Ls.length ≤ 100000) :
    Calls Try.prog 52 #[.slice A Ls.length c, .string b] w fun e w' => ∃ x : Int, e = .returned (.int .i64 x) ∧ decide (0 ≤ x) = Ls.any (fun x => decide (x = b.data.toList)) ∧ Below w.heap.size w w' := by
  have HT := Lib.hid hT
  clear hT
  go_enter Try.func52, Try.ntmps52
  go_wp2_with fail
  go_loopw [8] (fun x wr => SxRel w Ls b.data.toList x wr) (fun x _ => Ls.length - (intOf x).toNat)
  case atStart => exact ⟨0, rfl, ⟨by omega, fun j x h => by omega, Below.refl _ _, rfl⟩⟩
  case round =>
    obtain ⟨k, rfl, HR⟩ := hrel
    have hk := HR.le
    have hbr := HR.bel
    have HRR := Lib.hid HR
    clear HR
    by_cases hlt : k < Ls.length
    · obtain ⟨x, hx⟩ : ∃ x, Ls[k]? = some x := ⟨_, List.getElem?_eq_getElem hlt⟩
      obtain ⟨bx, rfl, q0'⟩ := HT.out k x hx
      have q0 : wr.cell? ⟨bx, k, none⟩ = some (.string (tB x)) := (cell_heap HRR.out.cells _).trans q0'
      have hst := str_eq b (tB x)
      have HX := Lib.hid hx
      have HK1 := Lib.hid (show k + 1 ≤ Ls.length from hlt)
      have i1 : (k : Int) < (Ls.length : Int) := by omega
      clear hx q0'
      by_cases hxb : x = b.data.toList
      · have B0 : (b.toList == (tB x).toList) = true := by rw [hst, decide_eq_true (by rw [hxb, tB_of])]
        have HF := Lib.hid (show Ls.any (fun x => decide (x = b.data.toList)) = true by rw [List.any_eq_true]; exact ⟨x, List.mem_of_getElem? HX.out, by simp [hxb]⟩)
        clear hst hxb
        go_wp2_with fail
        go_ret
        exact ⟨_, rfl, by rw [HF.out]; simp, hbr⟩
      · have B0 : (b.toList == (tB x).toList) = false := by rw [hst, decide_eq_false (fun e => hxb (by rw [e, tB_list]))]
        have HXB := Lib.hid hxb
        clear hst hxb
        go_wp2_with fail
        go_roundw
        case rel => exact ⟨k + 1, by go_num, HK1.out, fun j y hj hy => by
          rcases Nat.lt_or_ge j k with h | h
          · exact HRR.out.no j y h hy
          · have : j = k := by omega
            subst this
            rw [HX.out] at hy
            injection hy with hy
            subst hy
            exact HXB.out, hbr, HRR.out.cells⟩
        case measure => simp [intOf]; omega
    · have hke : k = Ls.length := by omega
      have HDN := Lib.hid (show SxAt w wr Ls b.data.toList Ls.length by rw [← hke]; exact HRR.out)
      have HF := Lib.hid HDN.out.done
      go_wp2_with fail
      go_ret
      exact ⟨_, rfl, by rw [HF.out]; rfl, hbr⟩

set_option maxHeartbeats 1000000 in
theorem scontains_any (Ls : List (List UInt8)) (A : Option Addr) (c : Nat) (b : ByteArray) (w : World) (hT : TextsAt w A Ls) (hz : Ls.length ≤ 100000) :
    Calls Try.prog 32 #[.slice A Ls.length c, .string b] w fun e w' => e = .returned (.bool (Ls.any (fun x => decide (x = b.data.toList)))) ∧ Below w.heap.size w w' := by
  have H := Lib.hid (sindex_any Ls A c b w hT hz)
  clear hT
  obtain ⟨q, hq⟩ : ∃ q, Ls.any (fun x => decide (x = b.data.toList)) = q := ⟨_, rfl⟩
  rw [hq] at H ⊢
  clear hq
  go_enter Try.func32, Try.ntmps32
  go_wp2_with fail
  refine H.out.mono ?_
  rintro e w2 ⟨x, rfl, hx, hb⟩
  go_wp2_with fail
  go_ret
  exact ⟨by first | rfl | rw [← hx], hb⟩

theorem closes_len (o : List UInt8) : (closedBy o).length ≤ 11 := by
  unfold closedBy
  repeat' split
  all_goals decide

set_option maxHeartbeats 1000000 in
theorem closesD_any (B : Nat) (o b : ByteArray) (w : World) (hM : Made w B) (ho : o.size ≤ maxLen) :
    Calls Try.prog 20 #[.map (some B), .string o, .string b] w fun e w' => e = .returned (.bool (closesB o.data.toList b.data.toList)) ∧ Below w.heap.size w w' := by
  have hz : (zeroValue 22).run Try.prog w = .ok (.slice none 0 0) w := by kernel_rfl
  have hle := closes_len o.data.toList
  rcases MapL.get hM Try.underlying39 hz o ho with ⟨hg, hrun⟩ | ⟨Ls, bx, c, hg, hrun, hc, hb, hcell⟩
  · have he : closedBy o.data.toList = [] := by
      rw [clG_eq] at hg
      by_cases h : closedBy o.data.toList = []
      · exact h
      · rw [if_neg h] at hg; cases hg
    have hq : closesB o.data.toList b.data.toList = false := by unfold closesB; rw [he]; rfl
    rw [hq]
    have H := Lib.hid (fun W => scontains_any [] none 0 b W (fun j x h => by simp at h) (by decide))
    clear hq he hg hle hM
    go_enter Try.func20, Try.ntmps20
    go_wp2_with fail
    refine (H.out _).mono ?_
    rintro e w2 ⟨rfl, hb2⟩
    go_wp2_with fail
    go_ret
    exact ⟨rfl, hb2⟩
  · have he : closedBy o.data.toList = Ls := by
      rw [clG_eq] at hg
      by_cases h : closedBy o.data.toList = []
      · rw [if_pos h] at hg; cases hg
      · rw [if_neg h] at hg; injection hg
    rw [he] at hle
    have H := Lib.hid (scontains_any Ls (some ⟨bx, 0, none⟩) c b w (fun j x h => ⟨bx, rfl, hcell j x h⟩) (by omega))
    have hq : closesB o.data.toList b.data.toList = Ls.any (fun x => decide (x = b.data.toList)) := by unfold closesB; rw [he]
    rw [hq]
    obtain ⟨q, hq2⟩ : ∃ q, Ls.any (fun x => decide (x = b.data.toList)) = q := ⟨_, rfl⟩
    rw [hq2] at H ⊢
    clear hq hq2 he hg hcell hM
    go_enter Try.func20, Try.ntmps20
    go_wp2_with fail
    refine H.out.mono ?_
    rintro e w2 ⟨rfl, hb2⟩
    go_wp2_with fail
    go_ret
    exact ⟨rfl, hb2⟩

set_option maxHeartbeats 1000000 in
theorem ClosesD (o b : ByteArray) (w : World) (ho : o.size ≤ maxLen) :
    Calls Try.prog 7 #[.string o, .string b] w fun e w' => e = .returned (.bool (closesB o.data.toList b.data.toList)) ∧ Below w.heap.size w w' := by
  go_enter Try.func7, Try.ntmps7
  go_wp2_with fail
  refine (made_any _).mono ?_
  rintro e w1 ⟨B, rfl, hM, hb1⟩
  have H := Lib.hid (closesD_any B o b w1 hM ho)
  obtain ⟨q, hq⟩ : ∃ q, closesB o.data.toList b.data.toList = q := ⟨_, rfl⟩
  rw [hq] at H
  have HQ := Lib.hid hq
  clear hq hM
  go_wp2_with fail
  refine H.out.mono ?_
  rintro e w2 ⟨rfl, hb2⟩
  go_wp2_with fail
  go_ret
  exact ⟨by rw [HQ.out]; rfl, below_after hb1 hb2⟩

set_option maxHeartbeats 2000000 in
set_option maxRecDepth 100000 in
theorem whole_any (p t : ByteArray) (w : World) (hr : rawB p.data.toList = true) (hp : p.size ≤ 100000) (ht : t.size ≤ 100000) :
    Calls Try.prog 48 #[.string p, .string t] w fun e w' => e = .returned (.bool (rawOK p.data.toList t.data.toList)) ∧ Below w.heap.size w w' := by
  obtain ⟨T, hT⟩ : ∃ T : ByteArray, ((t ++ (⟨#[60, 47]⟩ : ByteArray)) ++ p) ++ (⟨#[62]⟩ : ByteArray) = T := ⟨_, rfl⟩
  have hTl : T.data.toList = t.data.toList ++ (60 :: 47 :: (p.data.toList ++ [62])) := by rw [← hT]; simp
  have hpz : p.data.toList.length = p.size := by simp
  have htz : t.data.toList.length = t.size := by simp
  have hTz : T.size = t.size + p.size + 3 := by
    have h1 := congrArg List.length hTl
    have h2 : T.data.toList.length = T.size := by simp
    simp only [List.length_append, List.length_cons, List.length_nil] at h1
    omega
  have hen := ends_raw (nm := p.data.toList) (t := t.data.toList) (raw_named hr)
  rw [← hTl, htz] at hen
  have HED := Lib.hid (fun W => tkends_any T p W (by omega) (by omega))
  have key : ∀ z : Int, ((z = -1 ∧ cutEnd p.data.toList T.data.toList = (T.data.toList, [])) ∨ ∃ k : Nat, z = k ∧ k ≤ T.data.toList.length ∧ cutEnd p.data.toList T.data.toList = (T.data.toList.take k, T.data.toList.drop k)) → (z == (t.size : Int)) = rawOK p.data.toList t.data.toList := by
    intro z hz
    have hTd : T.data.toList.length = T.size := by simp
    have he : z = (t.size : Int) ↔ endsI p.data.toList T.data.toList = (t.size : Int) := by
      unfold endsI
      rcases hz with ⟨rfl, hc⟩ | ⟨k, rfl, hk, hc⟩
      · rw [hc, if_pos rfl]
      · rw [hc]
        by_cases hd : T.data.toList.drop k = []
        · have := congrArg List.length hd
          rw [List.length_drop, List.length_nil] at this
          rw [if_pos hd]
          constructor <;> intro h <;> omega
        · rw [if_neg hd]
          show _ ↔ (((T.data.toList.take k).length : Nat) : Int) = _
          rw [List.length_take, Nat.min_eq_left hk]
    cases hro : rawOK p.data.toList t.data.toList with
    | true => rw [beq_iff_eq]; exact he.2 (hen.2 hro)
    | false =>
      rw [beq_eq_false_iff_ne]
      intro e
      have := hen.1 (he.1 e)
      rw [hro] at this
      cases this
  have HKEY := Lib.hid key
  rw [← hT] at HED
  have HTT := Lib.hid hT
  have z1 : ¬ (9223372036854775807 < t.size + (⟨#[60, 47]⟩ : ByteArray).size) := by show ¬ (_ < t.size + 2); omega
  have z2 : ¬ (9223372036854775807 < (t ++ (⟨#[60, 47]⟩ : ByteArray)).size + p.size) := by rw [ByteArray.size_append]; show ¬ (_ < t.size + 2 + p.size); omega
  have z3 : ¬ (9223372036854775807 < ((t ++ (⟨#[60, 47]⟩ : ByteArray)) ++ p).size + (⟨#[62]⟩ : ByteArray).size) := by rw [ByteArray.size_append, ByteArray.size_append]; show ¬ (_ < t.size + 2 + p.size + 1); omega
  have y1 : ¬ (9223372036854775807 < t.size + 2) := by omega
  have y2 : ¬ (9223372036854775807 < t.size + 2 + p.size) := by omega
  have y3 : ¬ (9223372036854775807 < t.size + 2 + p.size + 1) := by omega
  clear hT hTl hTz hen htz hpz key
  go_enter Try.func48, Try.ntmps48
  go_wp2_with fail
  refine (HED.out _).mono ?_
  rintro e w1 ⟨z, rfl, hz, hb1⟩
  rw [HTT.out] at hz
  have HZ := Lib.hid (HKEY.out z hz)
  clear hz
  go_wp2_with fail
  go_ret
  exact ⟨by rw [← HZ.out]; rfl, hb1⟩

end Go.Proofs.Ytoidjkkjnhnbhaa

/- Part Tell. -/
namespace Go.Proofs.Ytoidjkkjnhnbhaa
open Go.RowKit Go.Shelf
set_option linter.unusedVariables false

attribute [local go_sem] Oper.semAt_some

theorem room_none {F : Fence} (hd : F.depth = none) (k : Nat) : F.room k := fun d h => by rw [hd] at h; cases h
theorem RoundIn.deep {F : Fence} (hd : F.depth = none) {m m' : Nat} {P : Program} {l : Nat} {f : FuncId} {tmps : Array Value} {assign body : Code} {w : World} {R : Ending → World → Prop}
    (h : RoundIn F m P l f tmps assign body w R) : RoundIn F m' P l f tmps assign body w R := ⟨h.1, fun c cs _ => h.2 c cs (room_none hd _)⟩
theorem YieldAt.deep {F : Fence} (hd : F.depth = none) {m : Nat} (m' : Nat) {P : Program} {l : Nat} {args : Array Value} {W : World} {R : Ending → World → Prop} (h : YieldAt F m P l args W R) : YieldAt F m' P l args W R := by
  obtain ⟨fn, tmps, assign, body, hy, hR⟩ := h
  exact ⟨fn, tmps, assign, body, hy, RoundIn.deep hd hR⟩

mutual
/-- A node and all that stand in it, each ahead of its kids. -/
def allNd : Nd → List Nd
  | .mk k n a t ks => .mk k n a t ks :: allN ks
def allN : List Nd → List Nd
  | [] => []
  | n :: l => allNd n ++ allN l
end
theorem allNd_eq (n : Nd) : allNd n = n :: allN n.kids := by cases n; simp [allNd, Nd.kids]
theorem allN_nil : allN [] = [] := by simp [allN]
theorem allN_cons (n : Nd) (l : List Nd) : allN (n :: l) = n :: (allN n.kids ++ allN l) := by simp [allN, allNd_eq]
theorem allN_append : ∀ (a b : List Nd), allN (a ++ b) = allN a ++ allN b
  | [], b => by simp [allN_nil]
  | x :: a, b => by rw [List.cons_append, allN_cons, allN_cons, allN_append a b]; simp
theorem allN_take {l : List Nd} {i : Nat} {n : Nd} (h : l[i]? = some n) : allN (l.take (i + 1)) = allN (l.take i) ++ n :: allN n.kids := by
  rw [List.take_add_one, h, allN_append]
  simp [allN_cons, allN_nil]
theorem allN_len_take (l : List Nd) (i : Nat) : (allN (l.take i)).length ≤ (allN l).length := by
  have : allN l = allN (l.take i) ++ allN (l.drop i) := by rw [← allN_append, List.take_append_drop]
  rw [this, List.length_append]
  omega

/-- Something holds at each place of a list, and of all that stand in it. -/
inductive AllP (P : List Nd → Nat → Prop) : List Nd → Prop
  | mk (l : List Nd) (h : ∀ (i : Nat) (n : Nd), l[i]? = some n → P l i) (hk : ∀ (i : Nat) (n : Nd), l[i]? = some n → AllP P n.kids) : AllP P l

/-- A place: a list that lies in a world's blocks of S, a number, the node there. -/
structure Pos (w0 : World) (S : Nat → Prop) (P : List Nd → Nat → Prop) where
  v : Value
  i : Nat
  l : List Nd
  n : Nd
  tree : Tree S w0 l v
  at_ : l[i]? = some n
  ok : P l i
def Pos.encs {w0 : World} {S : Nat → Prop} {P : List Nd → Nat → Prop} (x : Pos w0 S P) : Array Value := #[x.v, .int .i64 (x.i : Int)]

set_option maxHeartbeats 2000000 in
set_option maxRecDepth 100000 in
theorem tell_in (F : Fence) (hd : F.depth = none) (hf : F.fn 58) (hro : F.round = none) (lp n₀ N : Nat) (w0 : World) (S : Nat → Prop) (hS : ∀ b, S b → b < n₀) (P : List Nd → Nat → Prop)
    (J Jx : List (Pos w0 S P) → World → Prop)
    (hY : ∀ (m : Nat) (pre : List (Pos w0 S P)) (x : Pos w0 S P) (W : World), J pre W → pre.length < N → YieldAt F m Try.prog lp x.encs W fun e W' =>
      (e = .returned (.bool true) ∧ J (pre ++ [x]) W' ∧ Below n₀ W W') ∨ (e = .returned (.bool false) ∧ Jx (pre ++ [x]) W')) (l : List Nd) :
    ∀ (n : Nat) (v : Value) (pre : List (Pos w0 S P)) (W : World), AllP P l → szL l ≤ 100000 → Tree S w0 l v → Below n₀ w0 W → J pre W → pre.length + (allN l).length ≤ N →
      CallsIn F n Try.prog 58 #[v, .func (.yield lp) #[] #[]] W fun e W' =>
        (e = .returned (.bool true) ∧ (∃ ys : List (Pos w0 S P), ys.map Pos.n = allN l ∧ J (pre ++ ys) W') ∧ Below n₀ W W') ∨ (e = .returned (.bool false) ∧ ∃ q, Jx (pre ++ q) W') := by
  induction l using nd_ind with
  | h l ih =>
  intro n v pre W hP hsz hT hB hJ hN
  have hlen := szL_len l
  have hdd : ∀ k : Nat, (F.depth.isSome = true → 1 ≤ k) := fun k h => by rw [hd] at h; cases h
  obtain ⟨A, c, rfl, hc⟩ := hT.shape
  refine callsIn_of_wp Try.func58 rfl hf ?_ hro
  simp only [Try.ntmps58, List.size_toArray, List.length_cons, List.length_nil, Nat.reduceAdd, Nat.reduceSub, Array.replicate_succ, Array.replicate_zero, List.push_toArray, List.append_toArray, List.nil_append, List.cons_append]
  gi_wp2
  gi_loopw [8] (fun x wr => ∃ (i : Nat) (ys : List (Pos w0 S P)), x = .int .i64 i ∧ i ≤ l.length ∧ ys.map Pos.n = allN (l.take i) ∧ J (pre ++ ys) wr ∧ Below n₀ W wr) (fun x _ => l.length - (intOf x).toNat)
  case atStart => exact ⟨0, [], rfl, by omega, by simp [allN_nil], by simpa using hJ, Below.refl _ _⟩
  case round =>
    obtain ⟨i, ys, rfl, hi, hys, hJs, hBs⟩ := hrel
    by_cases hlt : i < l.length
    · obtain ⟨b, o, c', hv, _, hSb, hcell⟩ := hT.open_ (by omega)
      injection hv with hA _ hcc
      subst hA
      subst hcc
      obtain ⟨x, hx⟩ : ∃ x, l[i]? = some x := ⟨_, List.getElem?_eq_getElem hlt⟩
      obtain ⟨va, vk, hat⟩ := hcell i x hx
      have hPi : P l i := by cases hP with | mk l h hk => exact h i x hx
      have hPk : AllP P x.kids := by cases hP with | mk l h hk => exact hk i x hx
      have hyl : ys.length = (allN (l.take i)).length := by rw [← hys, List.length_map]
      have hst := allN_take hx
      have hle1 := allN_len_take l (i + 1)
      rw [hst, List.length_append, List.length_cons] at hle1
      have hle2 := szL_kids hx
      have hy0 := hY (n - 1) (pre ++ ys) ⟨_, i, l, x, hT, hx, hPi⟩ wr hJs (by rw [List.length_append]; omega)
      have hy2 := hy0.mono (R' := fun e W' =>
        (e = .returned (.bool true) ∧ W'.cell? ⟨b, o + i * 5 + 4, none⟩ = some vk ∧ CallsIn F (n - 1) Try.prog 58 #[vk, .func (.yield lp) #[] #[]] W' fun e W'' =>
          (e = .returned (.bool true) ∧ (∃ zs : List (Pos w0 S P), zs.map Pos.n = allN (l.take (i + 1)) ∧ J (pre ++ zs) W'') ∧ Below n₀ W W'') ∨ (e = .returned (.bool false) ∧ ∃ q, Jx (pre ++ q) W'')) ∨
        (e = .returned (.bool false) ∧ ∃ q, Jx (pre ++ q) W')) (fun e W' h => h.elim
          (fun ⟨he, hj, hb⟩ => .inl ⟨he, (((hB.trans hBs).trans hb).cell (p := ⟨b, o + i * 5 + 4, none⟩) (hS b hSb)).trans hat.c4,
            (ih i x hx (n - 1) vk (pre ++ ys ++ [⟨_, i, l, x, hT, hx, hPi⟩]) W' hPk (by omega) hat.kids ((hB.trans hBs).trans hb) hj (by simp only [List.length_append, List.length_singleton]; omega)).mono (fun e W'' h => h.elim
              (fun ⟨he, ⟨zs, hz, hjz⟩, hb2⟩ => .inl ⟨he, ⟨ys ++ (⟨_, i, l, x, hT, hx, hPi⟩ : Pos w0 S P) :: zs, by rw [hst, List.map_append, List.map_cons, hys, hz], by simpa using hjz⟩, (hBs.trans hb).trans hb2⟩)
              (fun ⟨he, q, hq⟩ => .inr ⟨he, ys ++ (⟨_, i, l, x, hT, hx, hPi⟩ : Pos w0 S P) :: q, by simpa using hq⟩))⟩)
          (fun ⟨he, hq⟩ => .inr ⟨he, ys ++ [⟨_, i, l, x, hT, hx, hPi⟩], by simpa using hq⟩))
      obtain ⟨fn, tmps, assign, body, hy, hR⟩ := hy2
      simp only [Pos.encs] at hy
      clear hy0 hst hle1 hcell hat hyl hys hN hY ih
      gi_wp2_with (first
        | ((try refine ⟨hdd _, ?_⟩); refine hR.mono ?_; clear hR; rintro e W2 (⟨rfl, c4, hcall⟩ | ⟨rfl, q, hq⟩))
        | ((try refine ⟨hdd _, ?_⟩); gi_at_call 58; refine hcall.mono ?_; clear hcall; rintro e W3 (⟨rfl, ⟨zs, hz, hjz⟩, hb3⟩ | ⟨rfl, q, hq⟩)))
      · go_roundw
        case rel => exact ⟨i + 1, zs, by go_num, by omega, hz, hjz, hb3⟩
        case measure => simp [intOf]; omega
      · go_ret
        exact .inr ⟨rfl, q, hq⟩
      · go_ret
        exact .inr ⟨rfl, q, hq⟩
    · have hil : i = l.length := by omega
      subst hil
      rw [List.take_length] at hys
      gi_wp2
      go_ret
      exact .inl ⟨rfl, ⟨ys, hys, hJs⟩, hBs⟩

/-- What all tells one by one: the closure that it hands back. -/
theorem all1_in (F : Fence) (hd : F.depth = none) (n : Nat) (h1 : F.fn 57) (hf : F.fn 58) (hro : F.round = none) (lp Bt n₀ : Nat) (w0 : World) (S : Nat → Prop) (hS : ∀ b, S b → b < n₀) (P : List Nd → Nat → Prop)
    (l : List Nd) (v : Value) (hP : AllP P l) (hsz : szL l ≤ 100000) (hT : Tree S w0 l v) (J Jx : List (Pos w0 S P) → World → Prop)
    (hY : ∀ (pre : List (Pos w0 S P)) (x : Pos w0 S P) (W : World), J pre W → pre.length < (allN l).length → YieldAt F (n - 1) Try.prog lp x.encs W fun e W' =>
      (e = .returned (.bool true) ∧ J (pre ++ [x]) W' ∧ Below n₀ W W') ∨ (e = .returned (.bool false) ∧ Jx (pre ++ [x]) W'))
    (W : World) (hB : Below n₀ w0 W) (hBt : W.cell? ⟨Bt, 0, none⟩ = some v) (h0 : J [] W) :
    CallsIn F n Try.prog 57 #[.func (.yield lp) #[] #[], .pointer (some ⟨Bt, 0, none⟩)] W fun e W' => (∃ v, e = .returned v) ∧
      ((∃ ys : List (Pos w0 S P), ys.map Pos.n = allN l ∧ J ys W') ∨ (∃ pre : List (Pos w0 S P), True ∧ Jx pre W')) := by
  have hdd : ∀ k : Nat, (F.depth.isSome = true → 1 ≤ k) := fun k h => by rw [hd] at h; cases h
  have hp := tell_in F hd hf hro lp n₀ (allN l).length w0 S hS P J Jx (fun m pre x W hj hl => YieldAt.deep hd m (hY pre x W hj hl)) l (n - 1) v [] W hP hsz hT hB h0 (by simp)
  obtain ⟨A, c, rfl, hc⟩ := hT.shape
  refine callsIn_of_wp Try.func57 rfl h1 ?_ hro
  simp only [Try.ntmps57, List.size_toArray, List.length_cons, List.length_nil, Nat.reduceAdd, Nat.reduceSub, Array.replicate_succ, Array.replicate_zero, List.push_toArray, List.append_toArray, List.nil_append, List.cons_append]
  gi_wp2_with ((try refine ⟨hdd _, ?_⟩); gi_at_call 58; refine hp.mono ?_; clear hp; rintro e W1 (⟨rfl, ⟨ys, hys, hJ1⟩, _⟩ | ⟨rfl, q, hx⟩))
  · go_end0
    exact ⟨⟨_, rfl⟩, .inl ⟨ys, hys, by simpa using hJ1⟩⟩
  · go_end0
    exact ⟨⟨_, rfl⟩, .inr ⟨_, trivial, hx⟩⟩

/-- dom.all: the list is boxed; the function value captures the box. -/
theorem all_in (F : Fence) (n : Nat) (h : F.fn 41) (hro : F.round = none) (v : Value) (hv : ∃ A n c, v = .slice A n c) (w : World) :
    CallsIn F n Try.prog 41 #[v] w fun e w' => e = .returned (.func (.func 57) #[] #[.pointer (some ⟨w.heap.size, 0, none⟩)]) ∧ w' = w.alloc (.cells #[v] 27) := by
  obtain ⟨A, m, c, rfl⟩ := hv
  refine callsIn_of_wp Try.func41 rfl h ?_ hro
  simp only [Try.ntmps41, List.size_toArray, List.length_cons, List.length_nil, Nat.reduceAdd, Nat.reduceSub, Array.replicate_succ, Array.replicate_zero, List.push_toArray, List.append_toArray, List.nil_append, List.cons_append]
  gi_wp2
  go_ret
  exact ⟨rfl, rfl⟩

/-- dom.all hands back what tells all nodes of the list, each ahead of its kids; or some of them. -/
theorem all_stops (F : Fence) (hd : F.depth = none) (n : Nat) (h1 : F.fn 57) (hf : F.fn 58) (hro : F.round = none) (Bt n₀ : Nat) (w0 : World) (S : Nat → Prop) (hS : ∀ b, S b → b < n₀) (P : List Nd → Nat → Prop)
    (l : List Nd) (v : Value) (hP : AllP P l) (hsz : szL l ≤ 100000) (hT : Tree S w0 l v) (w : World) (hB : Below n₀ w0 w) (hn : n₀ ≤ w.heap.size) (hBt : Bt < w.heap.size) (hc : w.cell? ⟨Bt, 0, none⟩ = some v) :
    SeqStopsK F n Try.prog 57 #[.pointer (some ⟨Bt, 0, none⟩)] (Pos.encs (w0 := w0) (S := S) (P := P)) (Below n₀) (fun ys => ys.map Pos.n = allN l) (fun _ => True) (allN l).length w := fun lp J Jx W hW _ _ hY h0 =>
  all1_in F hd n h1 hf hro lp Bt n₀ w0 S hS P l v hP hsz hT J Jx hY W (hB.trans (hW.mono hn)) ((hW.cell (p := ⟨Bt, 0, none⟩) hBt).trans hc) h0

end Go.Proofs.Ytoidjkkjnhnbhaa

/- Part TelP. -/
namespace Go.Proofs.Ytoidjkkjnhnbhaa
open Go.RowKit Go.Shelf
set_option linter.unusedVariables false

attribute [local go_sem] Oper.semAt_some

mutual
/-- The places of a node's kids; of a list (the end r of a list l, from place i on). -/
def plN : Nd → List (List Nd × Nat)
  | .mk _ _ _ _ ks => plL ks 0 ks
def plL (l : List Nd) (i : Nat) : List Nd → List (List Nd × Nat)
  | [] => []
  | n :: r => (l, i) :: (plN n ++ plL l (i + 1) r)
end
theorem plN_eq (n : Nd) : plN n = plL n.kids 0 n.kids := by cases n; simp [plN, Nd.kids]
theorem plL_nil (l : List Nd) (i : Nat) : plL l i [] = [] := by simp [plL]
theorem plL_cons (l : List Nd) (i : Nat) (n : Nd) (r : List Nd) : plL l i (n :: r) = (l, i) :: (plL n.kids 0 n.kids ++ plL l (i + 1) r) := by simp [plL, plN_eq]
theorem plL_append (l : List Nd) : ∀ (a b : List Nd) (i : Nat), plL l i (a ++ b) = plL l i a ++ plL l (i + a.length) b
  | [], b, i => by simp [plL_nil]
  | x :: a, b, i => by rw [List.cons_append, plL_cons, plL_cons, plL_append l a b (i + 1), List.length_cons, show i + 1 + a.length = i + (a.length + 1) by omega]; simp
theorem pl_take {l : List Nd} {i : Nat} {n : Nd} (h : l[i]? = some n) : plL l 0 (l.take (i + 1)) = plL l 0 (l.take i) ++ (l, i) :: plL n.kids 0 n.kids := by
  have hi := (List.getElem?_eq_some_iff.1 h).1
  rw [List.take_add_one, h, plL_append, Option.toList_some, plL_cons, plL_nil, List.append_nil, List.length_take, Nat.min_eq_left (by omega), Nat.zero_add]
theorem pl_pre (l : List Nd) (i : Nat) : plL l 0 (l.take i) <+: plL l 0 l := by
  refine ⟨plL l (0 + (l.take i).length) (l.drop i), ?_⟩
  rw [← plL_append, List.take_append_drop]
theorem pl_len_take (l : List Nd) (i : Nat) : (plL l 0 (l.take i)).length ≤ (plL l 0 l).length := (pl_pre l i).length_le

/-- A place without what lies there. -/
def Pos.key {w0 : World} {S : Nat → Prop} {P : List Nd → Nat → Prop} (x : Pos w0 S P) : List Nd × Nat := (x.l, x.i)

set_option maxHeartbeats 2000000 in
set_option maxRecDepth 100000 in
theorem tellP_in (F : Fence) (hd : F.depth = none) (hf : F.fn 58) (hro : F.round = none) (lp n₀ N : Nat) (w0 : World) (S : Nat → Prop) (hS : ∀ b, S b → b < n₀) (P : List Nd → Nat → Prop)
    (J Jx : List (Pos w0 S P) → World → Prop)
    (hY : ∀ (m : Nat) (pre : List (Pos w0 S P)) (x : Pos w0 S P) (W : World), J pre W → pre.length < N → YieldAt F m Try.prog lp x.encs W fun e W' =>
      (e = .returned (.bool true) ∧ J (pre ++ [x]) W' ∧ Below n₀ W W') ∨ (e = .returned (.bool false) ∧ Jx (pre ++ [x]) W')) (l : List Nd) :
    ∀ (n : Nat) (v : Value) (pre : List (Pos w0 S P)) (W : World), AllP P l → szL l ≤ 100000 → Tree S w0 l v → Below n₀ w0 W → J pre W → pre.length + (plL l 0 l).length ≤ N →
      CallsIn F n Try.prog 58 #[v, .func (.yield lp) #[] #[]] W fun e W' =>
        (e = .returned (.bool true) ∧ (∃ ys : List (Pos w0 S P), ys.map Pos.key = plL l 0 l ∧ J (pre ++ ys) W') ∧ Below n₀ W W') ∨ (e = .returned (.bool false) ∧ ∃ q, q.map Pos.key <+: plL l 0 l ∧ Jx (pre ++ q) W') := by
  induction l using nd_ind with
  | h l ih =>
  intro n v pre W hP hsz hT hB hJ hN
  have hlen := szL_len l
  have hdd : ∀ k : Nat, (F.depth.isSome = true → 1 ≤ k) := fun k h => by rw [hd] at h; cases h
  obtain ⟨A, c, rfl, hc⟩ := hT.shape
  refine callsIn_of_wp Try.func58 rfl hf ?_ hro
  simp only [Try.ntmps58, List.size_toArray, List.length_cons, List.length_nil, Nat.reduceAdd, Nat.reduceSub, Array.replicate_succ, Array.replicate_zero, List.push_toArray, List.append_toArray, List.nil_append, List.cons_append]
  gi_wp2
  gi_loopw [8] (fun x wr => ∃ (i : Nat) (ys : List (Pos w0 S P)), x = .int .i64 i ∧ i ≤ l.length ∧ ys.map Pos.key = plL l 0 (l.take i) ∧ J (pre ++ ys) wr ∧ Below n₀ W wr) (fun x _ => l.length - (intOf x).toNat)
  case atStart => exact ⟨0, [], rfl, by omega, by simp [plL_nil], by simpa using hJ, Below.refl _ _⟩
  case round =>
    obtain ⟨i, ys, rfl, hi, hys, hJs, hBs⟩ := hrel
    by_cases hlt : i < l.length
    · obtain ⟨b, o, c', hv, _, hSb, hcell⟩ := hT.open_ (by omega)
      injection hv with hA _ hcc
      subst hA
      subst hcc
      obtain ⟨x, hx⟩ : ∃ x, l[i]? = some x := ⟨_, List.getElem?_eq_getElem hlt⟩
      obtain ⟨va, vk, hat⟩ := hcell i x hx
      have hPi : P l i := by cases hP with | mk l h hk => exact h i x hx
      have hPk : AllP P x.kids := by cases hP with | mk l h hk => exact hk i x hx
      have hyl : ys.length = (plL l 0 (l.take i)).length := by rw [← hys, List.length_map]
      have hst := pl_take hx
      have hpp := pl_pre l (i + 1)
      have hle1 := pl_len_take l (i + 1)
      rw [hst] at hpp
      rw [hst, List.length_append, List.length_cons] at hle1
      have hle2 := szL_kids hx
      have hp1 : (ys ++ [(⟨_, i, l, x, hT, hx, hPi⟩ : Pos w0 S P)]).map Pos.key <+: plL l 0 l := by
        rw [List.map_append, hys]
        refine List.IsPrefix.trans ?_ hpp
        exact ⟨plL x.kids 0 x.kids, by simp [Pos.key]⟩
      have hp2 : ∀ q : List (Pos w0 S P), q.map Pos.key <+: plL x.kids 0 x.kids → (ys ++ (⟨_, i, l, x, hT, hx, hPi⟩ : Pos w0 S P) :: q).map Pos.key <+: plL l 0 l := fun q hq => by
        rw [List.map_append, hys]
        refine List.IsPrefix.trans ?_ hpp
        obtain ⟨t, ht⟩ := hq
        exact ⟨t, by rw [← ht]; simp [Pos.key]⟩
      have hy0 := hY (n - 1) (pre ++ ys) ⟨_, i, l, x, hT, hx, hPi⟩ wr hJs (by rw [List.length_append]; omega)
      have hy2 := hy0.mono (R' := fun e W' =>
        (e = .returned (.bool true) ∧ W'.cell? ⟨b, o + i * 5 + 4, none⟩ = some vk ∧ CallsIn F (n - 1) Try.prog 58 #[vk, .func (.yield lp) #[] #[]] W' fun e W'' =>
          (e = .returned (.bool true) ∧ (∃ zs : List (Pos w0 S P), zs.map Pos.key = plL l 0 (l.take (i + 1)) ∧ J (pre ++ zs) W'') ∧ Below n₀ W W'') ∨ (e = .returned (.bool false) ∧ ∃ q, q.map Pos.key <+: plL l 0 l ∧ Jx (pre ++ q) W'')) ∨
        (e = .returned (.bool false) ∧ ∃ q, q.map Pos.key <+: plL l 0 l ∧ Jx (pre ++ q) W')) (fun e W' h => h.elim
          (fun ⟨he, hj, hb⟩ => .inl ⟨he, (((hB.trans hBs).trans hb).cell (p := ⟨b, o + i * 5 + 4, none⟩) (hS b hSb)).trans hat.c4,
            (ih i x hx (n - 1) vk (pre ++ ys ++ [⟨_, i, l, x, hT, hx, hPi⟩]) W' hPk (by omega) hat.kids ((hB.trans hBs).trans hb) hj (by simp only [List.length_append, List.length_singleton]; omega)).mono (fun e W'' h => h.elim
              (fun ⟨he, ⟨zs, hz, hjz⟩, hb2⟩ => .inl ⟨he, ⟨ys ++ (⟨_, i, l, x, hT, hx, hPi⟩ : Pos w0 S P) :: zs, by rw [hst, List.map_append, List.map_cons, hys, hz]; rfl, by simpa using hjz⟩, (hBs.trans hb).trans hb2⟩)
              (fun ⟨he, q, hqp, hq⟩ => .inr ⟨he, ys ++ (⟨_, i, l, x, hT, hx, hPi⟩ : Pos w0 S P) :: q, hp2 q hqp, by simpa using hq⟩))⟩)
          (fun ⟨he, hq⟩ => .inr ⟨he, ys ++ [⟨_, i, l, x, hT, hx, hPi⟩], hp1, by simpa using hq⟩))
      obtain ⟨fn, tmps, assign, body, hy, hR⟩ := hy2
      simp only [Pos.encs] at hy
      clear hy0 hst hle1 hcell hat hyl hys hN hY ih hpp hp1 hp2
      gi_wp2_with (first
        | ((try refine ⟨hdd _, ?_⟩); refine hR.mono ?_; clear hR; rintro e W2 (⟨rfl, c4, hcall⟩ | ⟨rfl, q, hqp, hq⟩))
        | ((try refine ⟨hdd _, ?_⟩); gi_at_call 58; refine hcall.mono ?_; clear hcall; rintro e W3 (⟨rfl, ⟨zs, hz, hjz⟩, hb3⟩ | ⟨rfl, q, hqp, hq⟩)))
      · go_roundw
        case rel => exact ⟨i + 1, zs, by go_num, by omega, hz, hjz, hb3⟩
        case measure => simp [intOf]; omega
      · go_ret
        exact .inr ⟨rfl, q, hqp, hq⟩
      · go_ret
        exact .inr ⟨rfl, q, hqp, hq⟩
    · have hil : i = l.length := by omega
      subst hil
      rw [List.take_length] at hys
      gi_wp2
      go_ret
      exact .inl ⟨rfl, ⟨ys, hys, hJs⟩, hBs⟩

theorem all1P_in (F : Fence) (hd : F.depth = none) (n : Nat) (h1 : F.fn 57) (hf : F.fn 58) (hro : F.round = none) (lp Bt n₀ : Nat) (w0 : World) (S : Nat → Prop) (hS : ∀ b, S b → b < n₀) (P : List Nd → Nat → Prop)
    (l : List Nd) (v : Value) (hP : AllP P l) (hsz : szL l ≤ 100000) (hT : Tree S w0 l v) (J Jx : List (Pos w0 S P) → World → Prop)
    (hY : ∀ (pre : List (Pos w0 S P)) (x : Pos w0 S P) (W : World), J pre W → pre.length < (plL l 0 l).length → YieldAt F (n - 1) Try.prog lp x.encs W fun e W' =>
      (e = .returned (.bool true) ∧ J (pre ++ [x]) W' ∧ Below n₀ W W') ∨ (e = .returned (.bool false) ∧ Jx (pre ++ [x]) W'))
    (W : World) (hB : Below n₀ w0 W) (hBt : W.cell? ⟨Bt, 0, none⟩ = some v) (h0 : J [] W) :
    CallsIn F n Try.prog 57 #[.func (.yield lp) #[] #[], .pointer (some ⟨Bt, 0, none⟩)] W fun e W' => (∃ v, e = .returned v) ∧
      ((∃ ys : List (Pos w0 S P), ys.map Pos.key = plL l 0 l ∧ J ys W') ∨ (∃ pre : List (Pos w0 S P), pre.map Pos.key <+: plL l 0 l ∧ Jx pre W')) := by
  have hdd : ∀ k : Nat, (F.depth.isSome = true → 1 ≤ k) := fun k h => by rw [hd] at h; cases h
  have hp := tellP_in F hd hf hro lp n₀ (plL l 0 l).length w0 S hS P J Jx (fun m pre x W hj hl => YieldAt.deep hd m (hY pre x W hj hl)) l (n - 1) v [] W hP hsz hT hB h0 (by simp)
  obtain ⟨A, c, rfl, hc⟩ := hT.shape
  refine callsIn_of_wp Try.func57 rfl h1 ?_ hro
  simp only [Try.ntmps57, List.size_toArray, List.length_cons, List.length_nil, Nat.reduceAdd, Nat.reduceSub, Array.replicate_succ, Array.replicate_zero, List.push_toArray, List.append_toArray, List.nil_append, List.cons_append]
  gi_wp2_with ((try refine ⟨hdd _, ?_⟩); gi_at_call 58; refine hp.mono ?_; clear hp; rintro e W1 (⟨rfl, ⟨ys, hys, hJ1⟩, _⟩ | ⟨rfl, q, hqp, hx⟩))
  · go_end0
    exact ⟨⟨_, rfl⟩, .inl ⟨ys, hys, by simpa using hJ1⟩⟩
  · go_end0
    exact ⟨⟨_, rfl⟩, .inr ⟨_, hqp, by simpa using hx⟩⟩

/-- dom.all hands back what tells all places of the list, each ahead of those within; or the first of them. -/
theorem allP_stops (F : Fence) (hd : F.depth = none) (n : Nat) (h1 : F.fn 57) (hf : F.fn 58) (hro : F.round = none) (Bt n₀ : Nat) (w0 : World) (S : Nat → Prop) (hS : ∀ b, S b → b < n₀) (P : List Nd → Nat → Prop)
    (l : List Nd) (v : Value) (hP : AllP P l) (hsz : szL l ≤ 100000) (hT : Tree S w0 l v) (w : World) (hB : Below n₀ w0 w) (hn : n₀ ≤ w.heap.size) (hBt : Bt < w.heap.size) (hc : w.cell? ⟨Bt, 0, none⟩ = some v) :
    SeqStopsK F n Try.prog 57 #[.pointer (some ⟨Bt, 0, none⟩)] (Pos.encs (w0 := w0) (S := S) (P := P)) (Below n₀) (fun ys => ys.map Pos.key = plL l 0 l) (fun pre => pre.map Pos.key <+: plL l 0 l) (plL l 0 l).length w := fun lp J Jx W hW _ _ hY h0 =>
  all1P_in F hd n h1 hf hro lp Bt n₀ w0 S hS P l v hP hsz hT J Jx hY W (hB.trans (hW.mono hn)) ((hW.cell (p := ⟨Bt, 0, none⟩) hBt).trans hc) h0

end Go.Proofs.Ytoidjkkjnhnbhaa
