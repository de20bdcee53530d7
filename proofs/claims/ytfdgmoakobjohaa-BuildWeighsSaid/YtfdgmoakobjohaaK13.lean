/- Parts of the proof, in build order: TkF MdlA NamW NamD BdX BdY. -/
import Derived.Test.YtfdgmoakobjohaaK12
import Derived.Test.YtfdgmoakobjohaaK11
import Derived.Deep.QuietTactic
import Derived.BigQuiet
import Derived.Test.YtfdgmoakobjohaaK08

/- Part TkF. -/
namespace Go.Proofs.Ytfdgmoakobjohaa
open Go.RowKit
set_option linter.unusedVariables false

def overB (l : List UInt8) : Bool := match l with | [] => false | c :: _ => blC c || decide (c = 47) || decide (c = 62)
theorem endAt_pre (nm l : List UInt8) : endAt nm l = (prefB l (60 :: 47 :: nm) && overB (l.drop (2 + nm.length))) := by
  unfold endAt prefB overB
  rw [List.map_take, show (60 :: 47 :: nm : List UInt8).length = 2 + nm.length by simp; omega]
  rfl
theorem prefB_len {l word : List UInt8} (h : prefB l word = true) : word.length ≤ l.length := by
  unfold prefB at h
  have := congrArg List.length (of_decide_eq_true h)
  rw [List.length_take, List.length_map] at this
  omega

/-- What a search for a raw element's end hands back. -/
def EndFound (nm l : List UInt8) (w : World) (e : Ending) (w' : World) : Prop :=
  ∃ z : Int, e = .returned (.int .i64 z) ∧ ((z = -1 ∧ cutEnd nm l = (l, [])) ∨ ∃ k : Nat, z = k ∧ k ≤ l.length ∧ cutEnd nm l = (l.take k, l.drop k)) ∧ Below w.heap.size w w'

/-- What inside hands back. -/
def InFound (nm l : List UInt8) (w : World) (e : Ending) (w' : World) : Prop :=
  ∃ k : Nat, e = .returned (.int .i64 k) ∧ k ≤ l.length ∧ cutEnd nm l = (l.take k, l.drop k) ∧ Below w.heap.size w w'
end Go.Proofs.Ytfdgmoakobjohaa

/- Part MdlA. -/
namespace Go.Proofs.Ytfdgmoakobjohaa
open Go.RowKit Go.Maps
set_option linter.unusedVariables false

/-- A slice of these texts. -/
def TextsAt (w : World) (A : Option Addr) (Ls : List (List UInt8)) : Prop := ∀ (j : Nat) (x : List UInt8), Ls[j]? = some x → ∃ bx, A = some ⟨bx, 0, none⟩ ∧ w.cell? ⟨bx, j, none⟩ = some (.string (tB x))
structure SxAt (w wr : World) (Ls : List (List UInt8)) (b : List UInt8) (k : Nat) : Prop where
  le : k ≤ Ls.length
  no : ∀ j x, j < k → Ls[j]? = some x → x ≠ b
  bel : Below w.heap.size w wr
  cells : wr.heap = w.heap
def SxRel (w : World) (Ls : List (List UInt8)) (b : List UInt8) (x : Value) (wr : World) : Prop := ∃ k : Nat, x = .int .i64 k ∧ SxAt w wr Ls b k
theorem SxAt.done {w wr : World} {Ls : List (List UInt8)} {b : List UInt8} (h : SxAt w wr Ls b Ls.length) : Ls.any (fun x => decide (x = b)) = false := by
  rw [List.any_eq_false]
  intro x hx
  obtain ⟨j, hj, he⟩ := List.mem_iff_getElem.1 hx
  have := h.no j x hj (by rw [List.getElem?_eq_getElem hj, he])
  simpa using this
theorem cell_heap {W W' : World} (h : W'.heap = W.heap) (p : Addr) : W'.cell? p = W.cell? p := by unfold World.cell?; rw [h]

set_option maxHeartbeats 2000000 in
set_option maxRecDepth 100000 in
theorem sindex_any (Ls : List (List UInt8)) (A : Option Addr) (c : Nat) (b : ByteArray) (w : World) (hT : TextsAt w A Ls) (hz : Ls.length ≤ 100000) :
    Calls Try.prog 47 #[.slice A Ls.length c, .string b] w fun e w' => ∃ x : Int, e = .returned (.int .i64 x) ∧ decide (0 ≤ x) = Ls.any (fun x => decide (x = b.data.toList)) ∧ Below w.heap.size w w' := by
  have HT := Lib.hid hT
  clear hT
  go_enter Try.func47, Try.ntmps47
  go_wp2_with fail
  go_loopw [8] (fun x wr => SxRel w Ls b.data.toList x wr) (fun x _ => Ls.length - (intOf x).toNat)
  case atStart => exact ⟨0, rfl, ⟨by omega, fun j x h => by omega, Below.refl _ _, rfl⟩⟩
  case round =>
    obtain ⟨k, rfl, HR⟩ := hrel
    have hk := HR.le
    have hbr := HR.bel
    have HRR := Lib.hid HR
    clear HR
    by_cases hlt : k < Ls.length
    · obtain ⟨x, hx⟩ : ∃ x, Ls[k]? = some x := ⟨_, List.getElem?_eq_getElem hlt⟩
      obtain ⟨bx, rfl, q0'⟩ := HT.out k x hx
      have q0 : wr.cell? ⟨bx, k, none⟩ = some (.string (tB x)) := (cell_heap HRR.out.cells _).trans q0'
      have hst := str_eq b (tB x)
      have HX := Lib.hid hx
      have HK1 := Lib.hid (show k + 1 ≤ Ls.length from hlt)
      have i1 : (k : Int) < (Ls.length : Int) := by omega
      clear hx q0'
      by_cases hxb : x = b.data.toList
      · have B0 : (b.toList == (tB x).toList) = true := by rw [hst, decide_eq_true (by rw [hxb, tB_of])]
        have HF := Lib.hid (show Ls.any (fun x => decide (x = b.data.toList)) = true by rw [List.any_eq_true]; exact ⟨x, List.mem_of_getElem? HX.out, by simp [hxb]⟩)
        clear hst hxb
        go_wp2_with fail
        go_ret
        exact ⟨_, rfl, by rw [HF.out]; simp, hbr⟩
      · have B0 : (b.toList == (tB x).toList) = false := by rw [hst, decide_eq_false (fun e => hxb (by rw [e, tB_list]))]
        have HXB := Lib.hid hxb
        clear hst hxb
        go_wp2_with fail
        go_roundw
        case rel => exact ⟨k + 1, by go_num, HK1.out, fun j y hj hy => by
          rcases Nat.lt_or_ge j k with h | h
          · exact HRR.out.no j y h hy
          · have : j = k := by omega
            subst this
            rw [HX.out] at hy
            injection hy with hy
            subst hy
            exact HXB.out, hbr, HRR.out.cells⟩
        case measure => simp [intOf]; omega
    · have hke : k = Ls.length := by omega
      have HDN := Lib.hid (show SxAt w wr Ls b.data.toList Ls.length by rw [← hke]; exact HRR.out)
      have HF := Lib.hid HDN.out.done
      go_wp2_with fail
      go_ret
      exact ⟨_, rfl, by rw [HF.out]; rfl, hbr⟩

set_option maxHeartbeats 1000000 in
theorem scontains_any (Ls : List (List UInt8)) (A : Option Addr) (c : Nat) (b : ByteArray) (w : World) (hT : TextsAt w A Ls) (hz : Ls.length ≤ 100000) :
    Calls Try.prog 45 #[.slice A Ls.length c, .string b] w fun e w' => e = .returned (.bool (Ls.any (fun x => decide (x = b.data.toList)))) ∧ Below w.heap.size w w' := by
  have H := Lib.hid (sindex_any Ls A c b w hT hz)
  clear hT
  obtain ⟨q, hq⟩ : ∃ q, Ls.any (fun x => decide (x = b.data.toList)) = q := ⟨_, rfl⟩
  rw [hq] at H ⊢
  clear hq
  go_enter Try.func45, Try.ntmps45
  go_wp2_with fail
  refine H.out.mono ?_
  rintro e w2 ⟨x, rfl, hx, hb⟩
  go_wp2_with fail
  go_ret
  exact ⟨by first | rfl | rw [← hx], hb⟩

theorem closes_len (o : List UInt8) : (closedBy o).length ≤ 11 := by
  unfold closedBy
  repeat' split
  all_goals decide

set_option maxHeartbeats 1000000 in
theorem closesD_any (B : Nat) (o b : ByteArray) (w : World) (hM : Made w B) (ho : o.size ≤ maxLen) :
    Calls Try.prog 43 #[.map (some B), .string o, .string b] w fun e w' => e = .returned (.bool (closesB o.data.toList b.data.toList)) ∧ Below w.heap.size w w' := by
  have hz : (zeroValue 45).run Try.prog w = .ok (.slice none 0 0) w := by kernel_rfl
  have hle := closes_len o.data.toList
  rcases MapL.get hM Try.underlying83 hz o ho with ⟨hg, hrun⟩ | ⟨Ls, bx, c, hg, hrun, hc, hb, hcell⟩
  · have he : closedBy o.data.toList = [] := by
      rw [clG_eq] at hg
      by_cases h : closedBy o.data.toList = []
      · exact h
      · rw [if_neg h] at hg; cases hg
    have hq : closesB o.data.toList b.data.toList = false := by unfold closesB; rw [he]; rfl
    rw [hq]
    have H := Lib.hid (fun W => scontains_any [] none 0 b W (fun j x h => by simp at h) (by decide))
    clear hq he hg hle hM
    go_enter Try.func43, Try.ntmps43
    go_wp2_with fail
    refine (H.out _).mono ?_
    rintro e w2 ⟨rfl, hb2⟩
    go_wp2_with fail
    go_ret
    exact ⟨rfl, hb2⟩
  · have he : closedBy o.data.toList = Ls := by
      rw [clG_eq] at hg
      by_cases h : closedBy o.data.toList = []
      · rw [if_pos h] at hg; cases hg
      · rw [if_neg h] at hg; injection hg
    rw [he] at hle
    have H := Lib.hid (scontains_any Ls (some ⟨bx, 0, none⟩) c b w (fun j x h => ⟨bx, rfl, hcell j x h⟩) (by omega))
    have hq : closesB o.data.toList b.data.toList = Ls.any (fun x => decide (x = b.data.toList)) := by unfold closesB; rw [he]
    rw [hq]
    obtain ⟨q, hq2⟩ : ∃ q, Ls.any (fun x => decide (x = b.data.toList)) = q := ⟨_, rfl⟩
    rw [hq2] at H ⊢
    clear hq hq2 he hg hcell hM
    go_enter Try.func43, Try.ntmps43
    go_wp2_with fail
    refine H.out.mono ?_
    rintro e w2 ⟨rfl, hb2⟩
    go_wp2_with fail
    go_ret
    exact ⟨rfl, hb2⟩

set_option maxHeartbeats 1000000 in
theorem ClosesD (o b : ByteArray) (w : World) (ho : o.size ≤ maxLen) :
    Calls Try.prog 34 #[.string o, .string b] w fun e w' => e = .returned (.bool (closesB o.data.toList b.data.toList)) ∧ Below w.heap.size w w' := by
  go_enter Try.func34, Try.ntmps34
  go_wp2_with fail
  refine (made_any _).mono ?_
  rintro e w1 ⟨B, rfl, hM, hb1⟩
  have H := Lib.hid (closesD_any B o b w1 hM ho)
  obtain ⟨q, hq⟩ : ∃ q, closesB o.data.toList b.data.toList = q := ⟨_, rfl⟩
  rw [hq] at H
  have HQ := Lib.hid hq
  clear hq hM
  go_wp2_with fail
  refine H.out.mono ?_
  rintro e w2 ⟨rfl, hb2⟩
  go_wp2_with fail
  go_ret
  exact ⟨by rw [HQ.out]; rfl, below_after hb1 hb2⟩

end Go.Proofs.Ytfdgmoakobjohaa

/- Part NamW. -/
namespace Go.Proofs.Ytfdgmoakobjohaa
open Go.RowKit
set_option linter.unusedVariables false
end Go.Proofs.Ytfdgmoakobjohaa

/- Part NamD. -/
namespace Go.Proofs.Ytfdgmoakobjohaa
open Go.RowKit
set_option linter.unusedVariables false

set_option maxHeartbeats 1000000 in
theorem void_any (s : ByteArray) (w : World) :
    Calls Try.prog 39 #[.string s] w fun e w' => e = .returned (.bool (voidB s.data.toList)) ∧ w = w' := by
  have h1 := eqs s [98, 114]
  have h2 := eqs s [104, 114]
  have h3 := eqs s [105, 109, 103]
  have h4 := eqs s [105, 110, 112, 117, 116]
  have h5 := eqs s [119, 98, 114]
  obtain ⟨q1, e1⟩ : ∃ q, decide (s.data.toList = [98, 114]) = q := ⟨_, rfl⟩
  obtain ⟨q2, e2⟩ : ∃ q, decide (s.data.toList = [104, 114]) = q := ⟨_, rfl⟩
  obtain ⟨q3, e3⟩ : ∃ q, decide (s.data.toList = [105, 109, 103]) = q := ⟨_, rfl⟩
  obtain ⟨q4, e4⟩ : ∃ q, decide (s.data.toList = [105, 110, 112, 117, 116]) = q := ⟨_, rfl⟩
  obtain ⟨q5, e5⟩ : ∃ q, decide (s.data.toList = [119, 98, 114]) = q := ⟨_, rfl⟩
  have HF := Lib.hid (show voidB s.data.toList = (q1 || q2 || q3 || q4 || q5) by unfold voidB; rw [e1, e2, e3, e4, e5])
  rw [e1] at h1
  rw [e2] at h2
  rw [e3] at h3
  rw [e4] at h4
  rw [e5] at h5
  clear e1 e2 e3 e4 e5
  cases q1
  case' false => cases q2
  case' false.false => cases q3
  case' false.false.false => cases q4
  case' false.false.false.false => cases q5
  all_goals
    go_enter Try.func39, Try.ntmps39
    go_wp2
    go_ret
    exact ⟨by rw [HF.out]; first | rfl | (simp only [Bool.true_or, Bool.false_or]; rfl), rfl⟩

end Go.Proofs.Ytfdgmoakobjohaa

/- Part BdX. -/
namespace Go.Proofs.Ytfdgmoakobjohaa
open Go.RowKit
set_option linter.unusedVariables false

/-! ### the names of the open elements -/
theorem popN_succ : ∀ (i : Nat) (b : Bst), popN (i + 1) b = popB (popN i b)
  | 0, b => rfl
  | i + 1, b => popN_succ i (popB b)
theorem tw_lt {α : Type} (p : α → Bool) : ∀ (l : List α) (i : Nat) (x : α), i < (l.takeWhile p).length → l[i]? = some x → p x = true
  | [], i, x, h, hx => by simp at hx
  | y :: l, i, x, h, hx => by
    rw [List.takeWhile_cons] at h
    by_cases hy : p y = true
    · rw [if_pos hy] at h
      cases i with
      | zero => simp at hx; rw [← hx]; exact hy
      | succ i => exact tw_lt p l i x (by simpa using h) (by simpa using hx)
    · rw [if_neg hy] at h
      simp at h
theorem tw_at {α : Type} (p : α → Bool) : ∀ (l : List α) (x : α), l[(l.takeWhile p).length]? = some x → p x = false
  | [], x, hx => by simp at hx
  | y :: l, x, hx => by
    rw [List.takeWhile_cons] at hx
    by_cases hy : p y = true
    · rw [if_pos hy] at hx
      exact tw_at p l x (by simpa using hx)
    · rw [if_neg hy] at hx
      simp at hx
      subst hx
      simpa using hy
theorem tw_leB {α : Type} (p : α → Bool) : ∀ (l : List α), (l.takeWhile p).length ≤ l.length
  | [] => Nat.le_refl _
  | y :: l => by
    rw [List.takeWhile_cons]
    split
    · have := tw_leB p l
      simp only [List.length_cons]
      omega
    · simp
theorem tw_allB {α : Type} (p : α → Bool) : ∀ (l : List α), (l.takeWhile p).length = l.length → l.all p = true
  | [], _ => rfl
  | y :: l, h => by
    rw [List.takeWhile_cons] at h
    by_cases hy : p y = true
    · rw [if_pos hy] at h
      rw [List.all_cons, hy, tw_allB p l (by simpa using h)]
      rfl
    · rw [if_neg hy] at h
      simp at h
/-- The i'th of the open elements is the innermost one when i are shut. -/
theorem popN_at {i : Nat} {b : Bst} {f : Fr} (h : b.fs[i]? = some f) : ∃ fr rest, (popN i b).fs = fr :: rest ∧ fr.name = f.name := by
  have hn := popN_names i b
  have hl : i < b.fs.length := (List.getElem?_eq_some_iff.1 h).1
  cases hp : (popN i b).fs with
  | nil =>
    rw [hp] at hn
    have := congrArg List.length hn
    simp at this
    omega
  | cons fr rest =>
    refine ⟨fr, rest, rfl, ?_⟩
    rw [hp] at hn
    have h2 : ((b.fs.map Fr.name).drop i)[0]? = some f.name := by rw [List.getElem?_drop, Nat.add_zero, List.getElem?_map, h]; rfl
    rw [← hn] at h2
    simpa using h2
theorem ba_eq {x y : ByteArray} : x.data.toList = y.data.toList ↔ x = y :=
  ⟨fun h => ByteArray.ext (Array.toList_inj.1 h), fun h => by rw [h]⟩
theorem ba_toList {x y : ByteArray} : x.toList = y.toList ↔ x = y := by rw [ByteArray.toList_eq, ByteArray.toList_eq]; exact ba_eq
theorem cnt_all (fs : List Fm) (x out : List Nd) (nm : ByteArray) : cntF fs nm.data.toList = 0 ↔ (bstOf fs x out).fs.all (notNamed nm) = true := by
  have h1 : (bstOf fs x out).fs.all (notNamed nm) = ((bstOf fs x out).fs.map Fr.name).all fun y => !decide (y = nm) := by rw [List.all_map]; rfl
  rw [h1, bst_names, List.all_map]
  unfold cntF
  rw [List.length_eq_zero_iff, List.filter_eq_nil_iff, List.all_eq_true]
  constructor
  · intro h f hf
    have := h f hf
    simp only [decide_eq_true_eq] at this
    show (!decide (f.name = nm)) = true
    simp only [Bool.not_eq_true', decide_eq_false_iff_not]
    exact fun e => this (ba_eq.2 e)
  · intro h f hf
    have h2 : (!decide (f.name = nm)) = true := h f hf
    simp only [Bool.not_eq_true', decide_eq_false_iff_not] at h2
    simp only [decide_eq_true_eq]
    exact fun e => h2 (ba_eq.1 e)

/-! ### end -/
def endB (b : Bst) (nm : ByteArray) : Bst := if b.fs.all (notNamed nm) = true then b else popN ((b.fs.takeWhile (notNamed nm)).length + 1) b
/-- The loop of end: i are shut. -/
structure EndAt (lo a : Nat) (b : Bst) (N : Nat) (j : Nat) (w w1 wr : World) : Prop where
  is : ∃ i, i ≤ j ∧ IsAtK lo a (popN i b) N (knew w w1) wr
  box : wr.heap[w.heap.size]? = w1.heap[w.heap.size]?
  bel : Below lo w wr

set_option maxHeartbeats 4000000 in
set_option maxRecDepth 100000 in
theorem end_anyB {lo a : Nat} {b : Bst} {N : Nat} {w : World} (h : IsAtB lo a b N w) (nm tx : ByteArray) (A : Option Addr) (n c : Nat) (hz : szB b ≤ 100000) (hN : N ≤ 1000000) (hnm : nm.size ≤ 100000) (hlo : lo ≤ w.heap.size) :
    Calls Try.prog 26 #[.pointer (some ⟨a, 0, none⟩), .agg #[.int .i64 2, .string nm, .slice A n c, .string tx]] w (Did lo a (endB b nm) N w) := by
  have mixed : Try.prog.follows Departure.mixedOrders = true := by kernel_rfl
  obtain ⟨w1, hw1⟩ : ∃ w1, w.alloc (.cells #[.int .i64 2, .string nm, .slice A n c, .string tx] 34) = w1 := ⟨_, rfl⟩
  have hb1 : Below w.heap.size w w1 := by rw [← hw1]; exact below_new _ _
  have hs1 : w1.heap.size = w.heap.size + 1 := by rw [← hw1]; simp
  have hbx : w1.heap[w.heap.size]? = some (.cells #[.int .i64 2, .string nm, .slice A n c, .string tx] 34 (0, 0)) := by rw [← hw1]; exact box_here w _ _
  have hK1 : IsAtK lo a b N (knew w w1) w1 := h.more hb1
  have hKd : IsAtK lo a b N (knew w w1) w1.drew := hK1.keep ((Below.refl _ _).drew)
  obtain ⟨M, cn, hcn, c8, hlk⟩ : ∃ M cn, (cn = 0 ↔ b.fs.all (notNamed nm) = true) ∧ w1.drew.cell? ⟨a, 8, none⟩ = some (.map (some M)) ∧ (Instr.lookup 47 (.map (some M)) (.string nm) false).run Try.prog w1.drew = .ok (.int .i64 (cn : Nat)) w1.drew := by
    obtain ⟨P, Q, s, rfl, rfl, _, _, h5, _⟩ := hKd
    exact ⟨s.M, cntF s.fs nm.data.toList, cnt_all _ _ _ _, cell_at h5.blk 8, h5.cnt.look nm (by unfold maxLen; omega)⟩
  have x1 : w1.drew.cell? ⟨w.heap.size, 1, none⟩ = some (.string nm) := cell_at hbx 1
  have hbd : Below lo w w1.drew := (hb1.mono hlo).drew
  rcases Nat.eq_zero_or_pos cn with h0 | h0
  · have hE : endB b nm = b := by unfold endB; rw [if_pos (hcn.1 h0)]
    have HE := Lib.hid (show Did lo a (endB b nm) N w (.returned (.tuple #[])) w1.drew from ⟨⟨_, rfl⟩, by rw [hE]; exact hKd.forget, hbd⟩)
    subst h0
    clear hb1 hs1 hbx hK1 hKd hcn hE hbd h
    go_enter Try.func26, Try.ntmps26
    go_upto_region 1 with fail
    go_region
    all_goals go_wp2_with fail
    all_goals go_end0
    all_goals exact HE.out
  · have hna : ¬ b.fs.all (notNamed nm) = true := fun e => by have := hcn.2 e; omega
    obtain ⟨j, hj⟩ : ∃ j, (b.fs.takeWhile (notNamed nm)).length = j := ⟨_, rfl⟩
    have hE : endB b nm = popN (j + 1) b := by unfold endB; rw [if_neg hna, hj]
    have hjl : j < b.fs.length := by
      have h1 := tw_leB (notNamed nm) b.fs
      rcases Nat.lt_or_ge j b.fs.length with h2 | h2
      · exact h2
      · exact absurd (tw_allB (notNamed nm) b.fs (by omega)) hna
    have hlt : ∀ i f, i < j → b.fs[i]? = some f → f.name ≠ nm := fun i f hi hf e => by
      have := tw_lt (notNamed nm) b.fs i f (by omega) hf
      unfold notNamed at this
      rw [e] at this
      simp at this
    have hat : ∀ f, b.fs[j]? = some f → f.name = nm := fun f hf => by
      have := tw_at (notNamed nm) b.fs f (by rw [hj]; exact hf)
      unfold notNamed at this
      simpa using this
    have B : ((cn : Int) == 0) = false := by simp; omega
    have HE := Lib.hid hE
    have HT := Lib.hid (And.intro hjl (And.intro hlt hat))
    have H0 := Lib.hid (show EndAt lo a b N j w w1 w1.drew from ⟨⟨0, Nat.zero_le _, hKd⟩, rfl, hbd⟩)
    have HX := Lib.hid (And.intro hbx hs1)
    clear hb1 hbx hK1 hKd hcn hE hbd h hna hj hjl hlt hat hs1
    go_enter Try.func26, Try.ntmps26
    go_upto_region 1 with fail
    go_cut [11] (fun x wx => x = .bool false ∧ wx = w1.drew)
    case first =>
      go_region
      all_goals go_wp2_with fail
      all_goals go_meet
      all_goals exact ⟨rfl, rfl⟩
    case rest =>
      obtain ⟨rfl, rfl⟩ := hcut
      clear c8 hlk x1
      go_wp2_with fail
      go_loopw [] (fun wr => EndAt lo a b N j w w1 wr) (fun wr => opLen a wr)
      case atStart => exact H0.out
      case round =>
        obtain ⟨⟨i, hi, hI⟩, hbox, hbel⟩ := hrel
        have hol := hI.opLen
        obtain ⟨f, hf⟩ : ∃ f, b.fs[i]? = some f := ⟨_, List.getElem?_eq_getElem (by have := HT.out.1; omega)⟩
        obtain ⟨fr, rest, hfr, hfn⟩ := popN_at hf
        have hbz : szB (popN i b) ≤ 100000 := Nat.le_trans (popN_sz i b) hz
        have hkb : ∀ k, knew w w1 k → k < wr.heap.size := fun k hk => by
          rcases hk with hk | hk
          · exact hk.elim
          · have := HX.out.2
            have h1 := hk.1
            have h2 := hk.2
            obtain rfl : k = w.heap.size := by omega
            have h3 := hbox.trans HX.out.1
            exact (Array.getElem?_eq_some_iff.1 h3).1
        have hwl : lo ≤ wr.heap.size := Nat.le_trans hlo hbel.size
        have hsh := shut_any (hI.keep ((Below.refl _ _).drew)) hfr hbz hN hwl hkb
        have hkx : knew w w1 w.heap.size := .inr ⟨Nat.le_refl _, by have := HX.out.2; omega⟩
        have y1 : wr.drew.cell? ⟨w.heap.size, 1, none⟩ = some (.string nm) := cell_at (hbox.trans HX.out.1) 1
        have HS := Lib.hid hsh
        have hlen : (popN i b).fs.length = rest.length + 1 := by rw [hfr]; rfl
        have hpl : (popB (popN i b)).fs.length < (popN i b).fs.length := by rw [pop_length]; omega
        have HR := Lib.hid (fun w3 (h3 : IsAtK lo a (popB (popN i b)) N (knew w w1) w3) (hk3 : ∀ k, knew w w1 k → w3.heap[k]? = wr.drew.heap[k]?) (hb3 : Below lo wr.drew w3) => (⟨(hk3 _ hkx).trans hbox, (hbel.drew).trans hb3, by rw [h3.opLen, hol]; exact hpl, by rw [popN_succ]; exact h3⟩ :
          w3.heap[w.heap.size]? = w1.heap[w.heap.size]? ∧ Below lo w w3 ∧ opLen a w3 < opLen a wr ∧ IsAtK lo a (popN (i + 1) b) N (knew w w1) w3))
        rcases Nat.lt_or_ge i j with hij | hij
        · have hne : fr.name ≠ nm := by rw [hfn]; exact HT.out.2.1 i f hij hf
          have B2 : (fr.name.toList == nm.toList) = false := by
            rw [beq_eq_false_iff_ne]
            intro e
            exact hne (ba_toList.1 e)
          clear hI hbox hbel hol hf hfr hfn hbz hkb hwl hsh hkx hlen hpl hne
          go_upto_region 2 with fail
          go_region_with (first
            | (go_at_call 36; refine HS.out.mono ?_; rintro e w3 ⟨rfl, h3, hk3, hat3, hb3⟩; have y2 : w3.cell? ⟨w.heap.size, 1, none⟩ = some (.string nm) := cell_at ((HR.out w3 h3 hk3 hb3).1.trans HX.out.1) 1))
          all_goals go_wp2_with fail
          all_goals
            go_roundw
            case rel => exact ⟨_, _, _, _, _, ⟨⟨i + 1, by omega, (HR.out w3 h3 hk3 hb3).2.2.2⟩, (HR.out w3 h3 hk3 hb3).1, (HR.out w3 h3 hk3 hb3).2.1⟩, rfl⟩
            case measure => exact (HR.out w3 h3 hk3 hb3).2.2.1
        · obtain rfl : i = j := by omega
          have hne : fr.name = nm := by rw [hfn]; exact HT.out.2.2 f hf
          have B2 : (fr.name.toList == nm.toList) = true := by rw [hne]; exact beq_self_eq_true _
          clear hI hbox hbel hol hf hfr hfn hbz hkb hwl hsh hkx hlen hpl hne
          go_upto_region 2 with fail
          go_region_with (first
            | (go_at_call 36; refine HS.out.mono ?_; rintro e w3 ⟨rfl, h3, hk3, hat3, hb3⟩; have y2 : w3.cell? ⟨w.heap.size, 1, none⟩ = some (.string nm) := cell_at ((HR.out w3 h3 hk3 hb3).1.trans HX.out.1) 1))
          all_goals go_wp2_with fail
          all_goals go_end0
          all_goals exact ⟨⟨_, rfl⟩, by rw [HE.out]; exact (HR.out w3 h3 hk3 hb3).2.2.2.forget, (HR.out w3 h3 hk3 hb3).2.1⟩

end Go.Proofs.Ytfdgmoakobjohaa

/- Part BdY. -/
namespace Go.Proofs.Ytfdgmoakobjohaa
open Go.RowKit
set_option linter.unusedVariables false

def beginB (b : Bst) (nm : ByteArray) (attrs : List (ByteArray × ByteArray)) : Bst :=
  let s := popN (b.fs.takeWhile (shutBy nm.data.toList)).length b
  if voidB nm.data.toList = true then addTo s (.mk 1 nm attrs (tB []) []) else ⟨⟨nm, attrs, []⟩ :: s.fs, s.out⟩
/-- The loop of begin: i are shut. -/
structure BegAtB (lo a : Nat) (b' : Bst) (N : Nat) (attrs : List (ByteArray × ByteArray)) (va : Value) (w w1 wr : World) : Prop where
  is : IsAtK lo a b' N (knew w w1) wr
  box : wr.heap[w.heap.size]? = w1.heap[w.heap.size]?
  bel : Below lo w wr
  att : AttrsAt (· < w.heap.size) wr attrs va
theorem BegAtB.keep {lo a : Nat} {b' : Bst} {N : Nat} {attrs : List (ByteArray × ByteArray)} {va : Value} {w w1 wr wx : World} (h : BegAtB lo a b' N attrs va w w1 wr) (hw : w.heap.size < wr.heap.size) (hlo : lo ≤ w.heap.size) (hb : Below wr.heap.size wr wx) : BegAtB lo a b' N attrs va w w1 wx :=
  ⟨h.is.keep hb, (hb.block _ hw).trans h.box, h.bel.trans (hb.mono (by omega)), h.att.keep (Kept.belowB hb fun b hb => Nat.lt_trans hb hw)⟩
def BegRelB (lo a : Nat) (b : Bst) (N j : Nat) (attrs : List (ByteArray × ByteArray)) (va : Value) (w w1 wr : World) : Prop := ∃ i, i ≤ j ∧ BegAtB lo a (popN i b) N attrs va w w1 wr
/-- An element that has just been made. -/
structure NewEl (w3 wx : World) (g : Nat) (nm : ByteArray) (attrs : List (ByteArray × ByteArray)) : Prop where
  bel : Below w3.heap.size w3 wx
  new : newB w3 wx g
  blk : ∃ va, wx.heap[g]? = some (.cells (fmBlk ⟨g, nm, attrs, va, .slice none 0 0, []⟩) 54 (0, 0)) ∧ AttrsAt (newB w3 wx) wx attrs va ∧ (0 < attrs.length → ∀ k, va.ownBlock = some k → k ≠ g)
/-- What the loop's test tells. -/
def openQ (b : Bst) (nm : ByteArray) : Bool := match b.fs with | [] => false | f :: _ => closesB f.name.data.toList nm.data.toList

theorem new_el {w3 w4 : World} {nm : ByteArray} {attrs : List (ByteArray × ByteArray)} {A1 : Option Addr} {c1 al : Nat} (hal : attrs.length = al) (hb : Below w3.heap.size w3 w4) (ha : AttrsAt (fun b => w3.heap.size ≤ b ∧ b < w4.heap.size) w4 attrs (.slice A1 attrs.length c1)) :
    NewEl w3 (w4.alloc (.cells #[.int .i64 1, .string nm, .slice A1 al c1, .string ⟨#[]⟩, .pointer none, .slice none 0 0, .slice none 0 0] 54)) w4.heap.size nm attrs := by
  subst hal
  have hs := hb.size
  refine ⟨hb.alloc hs _, ⟨hs, by simp⟩, _, box_here w4 _ _, (ha.keep (Kept.below (below_new _ _) fun b h => h.2)).mono fun b h => ⟨h.1, by rw [World.size_alloc]; omega⟩, fun h0 k hk e => ?_⟩
  obtain ⟨b, o, c, hv, _, hb2, _⟩ := ha.at_ h0
  rw [hv] at hk
  injection hk with hk
  have h3 : b < w4.heap.size := hb2.2
  have h4 : b = k := hk
  omega

set_option maxHeartbeats 8000000 in
set_option maxRecDepth 100000 in
theorem begin_anyB {lo a : Nat} {b : Bst} {N : Nat} {w : World} (h : IsAtB lo a b N w) (nm tx : ByteArray) (attrs : List (ByteArray × ByteArray)) (A : Option Addr) (c : Nat) (hat : AttrsAt (· < w.heap.size) w attrs (.slice A attrs.length c)) (hz : szB b ≤ 50000) (hN : N ≤ 900000) (hnm : nm.size ≤ 40000) (hal : attrs.length ≤ 100000) (hlo : lo ≤ w.heap.size) :
    Calls Try.prog 25 #[.pointer (some ⟨a, 0, none⟩), .agg #[.int .i64 1, .string nm, .slice A attrs.length c, .string tx]] w (Did lo a (beginB b nm attrs) (N + 2) w) := by
  have mixed : Try.prog.follows Departure.mixedOrders = true := by kernel_rfl
  obtain ⟨al, hall⟩ : ∃ al, attrs.length = al := ⟨_, rfl⟩
  obtain ⟨w1, hw1⟩ : ∃ w1, w.alloc (.cells #[.int .i64 1, .string nm, .slice A al c, .string tx] 34) = w1 := ⟨_, rfl⟩
  have hb1 : Below w.heap.size w w1 := by rw [← hw1]; exact below_new _ _
  have hs1 : w1.heap.size = w.heap.size + 1 := by rw [← hw1]; simp
  have hbx : w1.heap[w.heap.size]? = some (.cells #[.int .i64 1, .string nm, .slice A al c, .string tx] 34 (0, 0)) := by rw [← hw1]; exact box_here w _ _
  obtain ⟨j, hj⟩ : ∃ j, (b.fs.takeWhile (shutBy nm.data.toList)).length = j := ⟨_, rfl⟩
  have hjl : j ≤ b.fs.length := by rw [← hj]; exact tw_leB _ _
  have hlt : ∀ i f, i < j → b.fs[i]? = some f → closesB f.name.data.toList nm.data.toList = true := fun i f hi hf => tw_lt (shutBy nm.data.toList) b.fs i f (by omega) hf
  have hatj : ∀ f, b.fs[j]? = some f → closesB f.name.data.toList nm.data.toList = false := fun f hf => tw_at (shutBy nm.data.toList) b.fs f (by rw [hj]; exact hf)
  -- what the test tells when i are shut
  have hq : ∀ i, i ≤ j → openQ (popN i b) nm = decide (i < j) := fun i hi => by
    unfold openQ
    cases hf : b.fs[i]? with
    | none =>
      have hl : b.fs.length ≤ i := by
        rcases Nat.lt_or_ge i b.fs.length with h2 | h2
        · rw [List.getElem?_eq_getElem h2] at hf; cases hf
        · exact h2
      have hn := congrArg List.length (popN_names i b)
      rw [List.length_map, List.length_drop, List.length_map] at hn
      rw [List.length_eq_zero_iff.1 (show (popN i b).fs.length = 0 by omega), decide_eq_false (by omega)]
    | some f =>
      obtain ⟨fr, rest, hfr, hfn⟩ := popN_at hf
      rw [hfr]
      show closesB fr.name.data.toList nm.data.toList = _
      rw [hfn]
      rcases Nat.lt_or_ge i j with h2 | h2
      · rw [decide_eq_true h2, hlt i f h2 hf]
      · obtain rfl : i = j := by omega
        rw [decide_eq_false (by omega), hatj f hf]
  have H0 := Lib.hid (show BegRelB lo a b N j attrs (.slice A attrs.length c) w w1 w1 from ⟨0, Nat.zero_le _, h.more hb1, rfl, hb1.mono hlo, hat.keep (Kept.belowB hb1 fun b h => h)⟩)
  have HX := Lib.hid (And.intro hbx hs1)
  have HJ := Lib.hid (And.intro hj hq)
  have HAL := Lib.hid hall
  rw [hall] at hal ⊢
  clear hb1 hs1 hbx hj hjl hlt hatj hq h hat hall
  go_enter Try.func25, Try.ntmps25
  go_wp2_with fail
  go_loopw [] (fun wr => BegRelB lo a b N j attrs (.slice A attrs.length c) w w1 wr) (fun wr => opLen a wr)
  case atStart => exact H0.out
  case round =>
    obtain ⟨i, hi, hR⟩ := hrel
    have hol := hR.is.opLen
    have hbz : szB (popN i b) ≤ 50000 := Nat.le_trans (popN_sz i b) hz
    have hbxr : wr.heap[w.heap.size]? = _ := hR.box.trans HX.out.1
    have hwr : w.heap.size < wr.heap.size := (Array.getElem?_eq_some_iff.1 hbxr).1
    have hlr : lo ≤ wr.heap.size := by omega
    have HR := Lib.hid hR
    obtain ⟨q, hqq⟩ : ∃ q, decide (i < j) = q := ⟨_, rfl⟩
    have hqi := HJ.out.2 i hi
    rw [hqq] at hqi
    go_upto_region 1 with fail
    go_cut [21] (fun x wx => x = .bool q ∧ BegAtB lo a (popN i b) N attrs (.slice A attrs.length c) w w1 wx ∧ opLen a wx = opLen a wr ∧ wr.heap.size ≤ wx.heap.size)
    case first =>
      have hkd : Below wr.heap.size wr wr.drew := (Below.refl _ wr).drew
      have x1 : wr.drew.cell? ⟨w.heap.size, 1, none⟩ = some (.string nm) := cell_at hbxr 1
      obtain ⟨P, Q, s, hsa, hsb, _, _, h5, _⟩ := hR.is.keep hkd
      obtain ⟨A7, c7, hov, _⟩ := own_size h5.opn
      have e7 : wr.drew.cell? ⟨a, 7, none⟩ = some (.slice A7 s.fs.length c7) := by rw [← hsa]; exact (cell_at h5.blk 7).trans (by rw [← hov]; rfl)
      cases hfs : s.fs with
      | nil =>
        have hf0 : (popN i b).fs = [] := by
          have := bst_fs_len s []
          rw [hsb, hfs] at this
          exact List.length_eq_zero_iff.1 this
        have hq0 : q = false := by rw [← hqi]; unfold openQ; rw [hf0]
        subst hq0
        rw [hfs] at e7
        have e7' : wr.drew.cell? ⟨a, 7, none⟩ = some (.slice A7 0 c7) := e7
        have HE := Lib.hid (And.intro (hR.keep hwr hlo hkd) (hR.is.keep hkd).opLen)
        have HOL := Lib.hid hol
        clear h5 hov e7 hfs hf0 hqi hqq hsa hsb hbxr hkd hR hol
        go_region
        all_goals go_wp2_with fail
        all_goals go_meet
        all_goals exact ⟨rfl, HE.out.1, by rw [HE.out.2, HOL.out], Nat.le_refl _⟩
      | cons f fs =>
        have hlen : s.fs.length = fs.length + 1 := by rw [hfs]; rfl
        obtain ⟨fr, rest, hfr, hfn⟩ : ∃ fr rest, (popN i b).fs = fr :: rest ∧ fr.name = f.name := by
          rw [← hsb]
          unfold Stt.bst
          rw [hfs]
          exact ⟨_, _, rfl, rfl⟩
        have hq1 : closesB f.name.data.toList nm.data.toList = q := by
          rw [← hqi]
          unfold openQ
          rw [hfr]
          show closesB f.name.data.toList nm.data.toList = closesB fr.name.data.toList nm.data.toList
          rw [hfn]
        have hfz : szB (s.bst []) ≤ 50000 := by rw [hsb]; exact hbz
        have hnz : f.name.size ≤ maxLen := by
          have : szB (bstOf (f :: fs) (s.tn ++ []) (s.R0.map Rp.n)) ≤ 50000 := by
            have := hfz
            unfold Stt.bst at this
            rw [hfs] at this
            exact this
          have := name_small this
          unfold maxLen
          omega
        have hpl := place_any h5 (Nat.le_trans (fs_small hfz) (by decide))
        have htg : s.topG = f.g := by unfold Stt.topG; rw [hfs]
        rw [hsa, htg] at hpl
        have hff := h5.frs
        rw [hfs] at hff
        have g1 : wr.drew.cell? ⟨f.g, 1, none⟩ = some (.string f.name) := cell_at hff.2.1 1
        rw [hlen] at e7
        have hfl : fs.length + 1 ≤ 50000 := by have := fs_small hfz; omega
        obtain ⟨fg, hfg⟩ : ∃ g, f.g = g := ⟨_, rfl⟩
        obtain ⟨fnm, hfnm⟩ : ∃ g, f.name = g := ⟨_, rfl⟩
        obtain ⟨k, hk⟩ : ∃ k, fs.length = k := ⟨_, rfl⟩
        rw [hfg] at g1 hpl
        rw [hfnm] at g1 hq1 hnz
        rw [hk] at e7 hfl
        have HCL := Lib.hid (fun W => ClosesD fnm nm W hnz)
        rw [hq1] at HCL
        have HPL := Lib.hid hpl
        have HE := Lib.hid (fun W (hW : Below wr.heap.size wr W) => And.intro (hR.keep hwr hlo hW) (hR.is.keep hW).opLen)
        have HOL := Lib.hid hol
        have HKD := Lib.hid (fun n => (bel_drewN hkd n : Below wr.heap.size wr (wr.drew.drewN n)))
        have HFC := Lib.hid (fun n => (⟨x1, g1⟩ : (wr.drew.drewN n).cell? ⟨w.heap.size, 1, none⟩ = some (.string nm) ∧ (wr.drew.drewN n).cell? ⟨fg, 1, none⟩ = some (.string fnm)))
        clear h5 hov hfs hqi hqq hsa hsb hbxr hkd hR hol hlen hfr hfn hq1 hfz hnz hpl htg hff hfg hfnm hk
        go_region_with (first
          | (go_at_call 34; refine (HCL.out _).mono ?_; rintro e wb ⟨rfl, hbb⟩; have hbw := below_after hba hbb)
          | (go_at_call 35; refine HPL.out.mono ?_; rintro e wa ⟨rfl, n, hwa⟩; have hfa := HFC.out n; have hba := HKD.out n; rw [← hwa] at hfa hba; obtain ⟨y1, g2⟩ := hfa; clear hwa))
        all_goals go_wp2_with fail
        all_goals go_meet
        all_goals exact ⟨rfl, (HE.out _ hbw).1, by rw [(HE.out _ hbw).2, HOL.out], hbw.size⟩
    case rest =>
      obtain ⟨rfl, hM, hO, hZ⟩ := hcut
      have hbxc : wc.heap[w.heap.size]? = _ := hM.box.trans HX.out.1
      have hwc : w.heap.size < wc.heap.size := (Array.getElem?_eq_some_iff.1 hbxc).1
      have hkb : ∀ k, knew w w1 k → lo ≤ k ∧ k < wc.heap.size := fun k hk => by
        rcases hk with hk | hk
        · exact hk.elim
        · have := HX.out.2
          have h1 := hk.1
          have h2 := hk.2
          omega
      cases q with
      | true =>
        have hij : i < j := of_decide_eq_true hqq
        obtain ⟨fr, rest, hfr⟩ : ∃ fr rest, (popN i b).fs = fr :: rest := by
          cases hp : (popN i b).fs with
          | nil => unfold openQ at hqi; rw [hp] at hqi; cases hqi
          | cons fr rest => exact ⟨fr, rest, rfl⟩
        have hlen : (popN i b).fs.length = rest.length + 1 := by rw [hfr]; rfl
        have hpl : (popB (popN i b)).fs.length < (popN i b).fs.length := by rw [pop_length]; omega
        have HS := Lib.hid (shut_any hM.is hfr (by omega) (by omega) (by omega) fun k hk => (hkb k hk).2)
        have hkx : knew w w1 w.heap.size := .inr ⟨Nat.le_refl _, by have := HX.out.2; omega⟩
        have HE := Lib.hid (fun w3 (h3 : IsAtK lo a (popB (popN i b)) N (knew w w1) w3) (hk3 : ∀ k, knew w w1 k → w3.heap[k]? = wc.heap[k]?) (hat3 : ∀ B l va, B ≤ wc.heap.size → AttrsAt (· < B) wc l va → AttrsAt (· < B) w3 l va) (hb3 : Below lo wc w3) =>
          (⟨⟨i + 1, by omega, by rw [popN_succ]; exact h3, (hk3 _ hkx).trans hM.box, hM.bel.trans hb3, hat3 _ _ _ (by omega) hM.att⟩, by rw [h3.opLen, ← hol.symm.trans rfl]; omega⟩ : BegRelB lo a b N j attrs (.slice A attrs.length c) w w1 w3 ∧ opLen a w3 < opLen a wr))
        clear hM hO hZ hbxc hwc hkb hqq hqi hfr hlen hpl hkx hbxr hR hol
        go_wp2_with fail
        refine HS.out.mono ?_
        rintro e w3 ⟨rfl, h3, hk3, hat3, hb3⟩
        have he := HE.out w3 h3 hk3 hat3 hb3
        go_wp2_with fail
        go_roundw
        case rel => exact he.1
        case measure => exact he.2
      | false =>
        obtain rfl : i = j := by have := of_decide_eq_false hqq; omega
        have hj := HJ.out.1
        obtain ⟨w3, rfl⟩ : ∃ w3, w3 = wc := ⟨_, rfl⟩
        obtain ⟨b', hb'⟩ : ∃ b', popN i b = b' := ⟨_, rfl⟩
        rw [hb'] at hM hbz
        have HBB := Lib.hid (And.intro hj hb')
        have x0 : w3.drew.cell? ⟨w.heap.size, 0, none⟩ = some (.int .i64 1) := cell_at hbxc 0
        have x1 : w3.drew.cell? ⟨w.heap.size, 1, none⟩ = some (.string nm) := cell_at hbxc 1
        have x2 : w3.drew.cell? ⟨w.heap.size, 2, none⟩ = some (.slice A al c) := cell_at hbxc 2
        have hdr : Below w3.heap.size w3 w3.drew := (Below.refl _ w3).drew
        have hfr := fresh_any attrs (.slice A attrs.length c) w3.drew ((hM.att.keep (Kept.belowB hdr fun b hb => Nat.lt_trans hb hwc)).mono fun b hb => Nat.lt_trans hb hwc) (by rw [HAL.out]; omega)
        rw [HAL.out] at hfr
        have HFR := Lib.hid hfr
        have HMM := Lib.hid hM
        have HBX := Lib.hid (And.intro hbxc (And.intro hwc hkb))
        have HDR := Lib.hid hdr
        clear hfr hM hbxc hkb hwc hdr hj hb' hqq hqi hO hZ hbxr hR hol HR hwr hlr hi H0 HJ
        go_upto_region 3 with fail
        go_cut [4] (fun x wx => ∃ g, x = .pointer (some ⟨g, 0, none⟩) ∧ NewEl w3 wx g nm attrs)
        case first =>
          go_region_with (first
            | (go_at_call 37; refine HFR.out.mono ?_; rintro e w4 ⟨A1, c1, rfl, ha4, hf4, hb4⟩; have hbb := HDR.out.trans hb4; have y0 := (hbb.cell (p := ⟨w.heap.size, 0, none⟩) HBX.out.2.1).trans (show w3.cell? ⟨w.heap.size, 0, none⟩ = some (.int .i64 1) from x0); have y1 := (hbb.cell (p := ⟨w.heap.size, 1, none⟩) HBX.out.2.1).trans (show w3.cell? ⟨w.heap.size, 1, none⟩ = some (.string nm) from x1)))
          all_goals go_wp2_with fail
          all_goals go_meet
          all_goals exact ⟨_, rfl, new_el HAL.out hbb (by rw [HAL.out]; exact ha4)⟩
        case rest =>
          obtain ⟨g, rfl, hN⟩ := hcut
          obtain ⟨K4, hK4⟩ : ∃ K4 : Nat → Prop, (fun k => knew w w1 k ∨ newB w3 wc k) = K4 := ⟨_, rfl⟩
          have hmore : IsAtK lo a b' N K4 wc := by rw [← hK4]; exact HMM.out.is.more hN.bel
          have hlo4 : ∀ k, K4 k → lo ≤ k ∧ k < wc.heap.size := by
            rw [← hK4]
            rintro k (hk | hk)
            · have h1 := HBX.out.2.2 k hk
              have h2 := hN.bel.size
              exact ⟨h1.1, by omega⟩
            · have h1 := HBX.out.2.1
              have h2 := hk.1
              exact ⟨by omega, hk.2⟩
          have hKw : K4 w.heap.size := by rw [← hK4]; exact .inl (.inr ⟨Nat.le_refl _, by have := HX.out.2; omega⟩)
          have hKg : K4 g := by rw [← hK4]; exact .inr hN.new
          have hlc : lo ≤ wc.heap.size := Nat.le_trans (hlo4 g hKg).1 (Nat.le_of_lt (hlo4 g hKg).2)
          have HAD := Lib.hid (addG_any hmore g (by omega) hlc fun k hk => (hlo4 k hk).2)
          have hbxw := (hN.bel.block _ HBX.out.2.1).trans HBX.out.1
          obtain ⟨va, hblk, hava, hag⟩ := hN.blk
          have hav : AttrsAt K4 wc attrs va := hava.mono fun k hk => by rw [← hK4]; exact .inr hk
          have hbw : Below lo w wc := HMM.out.bel.trans (hN.bel.mono (by have := HBX.out.2.1; omega))
          have HG := Lib.hid (And.intro hblk (And.intro hav (And.intro hag (And.intro hbxw (And.intro hKw (And.intro hKg (And.intro hlo4 hbw)))))))
          have HBZ := Lib.hid hbz
          clear hmore hlo4 hKw hKg hlc hbxw hblk hava hag hav hbw hN hK4 x0 x1 x2 HMM HBX HDR HFR hbz
          go_wp2_with fail
          refine HAD.out.mono ?_
          rintro e w6 ⟨⟨x, rfl⟩, hp, hb6⟩
          obtain ⟨hblk, hav, hag, hbxw, hKw, hKg, hlo4, hbw⟩ := HG.out
          have hk6 : ∀ k, K4 k → w6.heap[k]? = wc.heap[k]? := by
            obtain ⟨_, _, _, _, _, _, _, _, _, h6, _⟩ := hp
            exact h6
          have hbx6 := (hk6 _ hKw).trans hbxw
          have z1 : w6.cell? ⟨w.heap.size, 1, none⟩ = some (.string nm) := cell_at hbx6 1
          have hbe : Below lo w w6 := hbw.trans hb6
          obtain ⟨q2, hq2⟩ : ∃ q2, voidB nm.data.toList = q2 := ⟨_, rfl⟩
          have HV := Lib.hid (void_any nm)
          rw [hq2] at HV
          have hbeg : beginB b nm attrs = if q2 = true then addTo b' (.mk 1 nm attrs (tB []) []) else ⟨⟨nm, attrs, []⟩ :: b'.fs, b'.out⟩ := by
            unfold beginB
            rw [HBB.out.1, HBB.out.2, hq2]
          cases q2 with
          | true =>
            rw [if_pos rfl] at hbeg
            have hcl := PlusAt.closed (K := K4) ((⟨g, nm, attrs, va, .slice none 0 0, []⟩ : Fm).rp []) hp hlo4 ⟨hKg, fm_cells hblk [], .elem rfl rfl, hav, PTree.nil _ _ _⟩ (show (1 : Int) ≠ 2 by decide)
            have HE := Lib.hid (show Did lo a (beginB b nm attrs) (N + 2) w (.returned (.tuple #[])) w6 from ⟨⟨_, rfl⟩, by rw [hbeg]; exact hcl.less (by omega), hbe⟩)
            clear hp hb6 hblk hav hag hbxw hKw hKg hlo4 hbw hk6 hbx6 hbe hq2 hbeg hcl
            go_wp2_with fail
            refine (HV.out _).mono ?_
            rintro e w7 ⟨rfl, rfl⟩
            go_wp2_with fail
            go_end0
            exact HE.out
          | false =>
            rw [if_neg (by decide)] at hbeg
            obtain ⟨A7, n7, c7, hn7, e7, A8, c8, w8, hrun, ⟨v8, d7⟩, f7, M, cn, hcn, HK⟩ := PlusAt.frame (K := K4) ⟨g, nm, attrs, va, .slice none 0 0, []⟩ hp hlo4 (by have := HBZ.out; omega) (by omega) (by show nm.size ≤ _; omega) hKg hblk hav hag rfl rfl
            obtain ⟨hkk, m8, hlk, w9, hup, hIs, hb9⟩ := HK 1
            have m1 : ((w8.setCell ⟨a, 7, none⟩ (.slice A8 (n7 + 1) c8)).drewN 1).cell? ⟨w.heap.size, 1, none⟩ = some (.string nm) := cell_at ((hkk _ hKw).trans hbxw) 1
            have HE := Lib.hid (show Did lo a (beginB b nm attrs) (N + 2) w (.returned (.tuple #[])) w9 from ⟨⟨_, rfl⟩, by rw [hbeg]; exact hIs, hbe.trans hb9⟩)
            clear hp hb6 hblk hav hag hbxw hKw hKg hlo4 hbw hk6 hbx6 hbe hq2 hbeg HK hkk hIs hb9
            go_wp2_with fail
            refine (HV.out _).mono ?_
            rintro e w7 ⟨rfl, rfl⟩
            go_wp2_with (at_builtin; refine wpList_run_append2 rfl _ _ rfl _ _ _ rfl rfl hrun ?_)
            obtain ⟨wq, hwq⟩ : ∃ wq, w8.setCell ⟨a, 7, none⟩ (.slice A8 (n7 + 1) c8) = wq := ⟨_, rfl⟩
            rw [hwq] at m8 hlk hup m1 ⊢
            clear hrun d7 f7 e7 hwq
            have m8' : wq.drew.cell? ⟨a, 8, none⟩ = some (.map (some M)) := m8
            have m1' : wq.drew.cell? ⟨w.heap.size, 1, none⟩ = some (.string nm) := m1
            have hlk' : (Instr.lookup 47 (.map (some M)) (.string nm) false).run Try.prog wq.drew = .ok (.int .i64 (cn : Nat)) wq.drew := hlk
            have hup' : (Instr.mapUpdate 47 (.map (some M)) (.string nm) (.int .i64 ((cn : Int) + 1))).run Try.prog wq.drew = .ok () w9 := hup
            clear m8 m1 hlk hup
            go_region
            all_goals go_wp2_with fail
            all_goals go_end0
            all_goals exact HE.out

end Go.Proofs.Ytfdgmoakobjohaa
