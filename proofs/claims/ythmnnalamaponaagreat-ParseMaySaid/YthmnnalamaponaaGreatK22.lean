/- Parts of the proof, in build order: Par8A BdA BdB BdT. -/
import Derived.Test.YthmnnalamaponaaGreatK12
import Derived.Test.YthmnnalamaponaaGreatK18
import Derived.Test.YthmnnalamaponaaGreatK11
import Derived.Test.YthmnnalamaponaaGreatK19
import Derived.Test.YthmnnalamaponaaGreatK21
import Derived.Deep.RegionWith
import Derived.Test.YthmnnalamaponaaGreatK15
import Derived.Test.YthmnnalamaponaaGreatK06
import Derived.Maps.OwnSet
import Derived.Test.YthmnnalamaponaaGreatK01
import Derived.Lib.Builder
import Derived.Lib.FrozenHead
import Derived.Lib.UnsafeStr
import Derived.Laws.Externs
import Derived.Test.YthmnnalamaponaaGreatK07

/- Part Par8A. -/
namespace Go.Proofs.YthmnnalamaponaaGreat
open Go.RowKit
set_option linter.unusedVariables false

set_option maxRecDepth 100000 in
theorem nextS_any (A : Option Addr) (c : Nat) (l : List UInt8) (w : World) (hs : Sits w w.heap.size A (Lib.byteCells l)) (hm : l.length ≤ 1000) :
    Calls Tryz.prog 113 #[.slice A l.length c] w fun e w' => e = .returned (.iface 43 (.string ⟨(right l).toArray⟩)) ∧ Below w.heap.size w w' := by
  have HR := Lib.hid (right_any A c l w hs (by omega))
  clear hs
  obtain ⟨n, hn⟩ : ∃ n, l.length = n := ⟨_, rfl⟩
  rw [hn] at HR
  rw [hn]
  clear hn
  go_enter Tryz.func113, Tryz.ntmps113
  go_wp2_with fail
  refine HR.out.mono ?_
  rintro e w1 ⟨rfl, hb⟩
  go_wp2_with fail
  go_ret
  exact ⟨rfl, hb⟩

set_option maxRecDepth 100000 in
theorem nextT_any (s : ByteArray) (w : World) (HG : Glob w) (hm : s.size ≤ 1000000) :
    Calls Tryz.prog 119 #[.string s] w fun e w' => ∃ v, e = .returned (.iface 126 v) ∧ TokAt (· < w'.heap.size) w' (tokB s.data.toList) v ∧ Below w.heap.size w w' := by
  have HR := Lib.hid (tokens_any s w HG hm)
  go_enter Tryz.func119, Tryz.ntmps119
  go_wp2_with fail
  refine HR.out.mono ?_
  rintro e w1 ⟨v, rfl, hT, hb⟩
  have HT := Lib.hid (hT.mono fun b h => h.2)
  clear hT
  go_wp2_with fail
  go_ret
  exact ⟨v, rfl, HT.out, hb⟩

theorem asr_src (v : Value) (w : World) : (Instr.typeAssert (.iface 41 v) 60 61 true).run Tryz.prog w = .ok (.tuple #[.slice none 0 0, .bool false]) w := by kernel_rfl
theorem asr_txt (v : Value) (w : World) : (Instr.typeAssert (.iface 43 v) 60 61 true).run Tryz.prog w = .ok (.tuple #[.slice none 0 0, .bool false]) w := by kernel_rfl
theorem asr_row (v : Value) (w : World) : (Instr.typeAssert (.iface 126 v) 60 61 true).run Tryz.prog w = .ok (.tuple #[.slice none 0 0, .bool false]) w := by kernel_rfl
theorem asr_tre (v : Value) (w : World) : (Instr.typeAssert (.iface 61 v) 60 61 true).run Tryz.prog w = .ok (.tuple #[v, .bool true]) w := by kernel_rfl

theorem mth_src (k : Nat) (v : Value) (w : World) : (method (k + 1) 41 v "strainer/parse.next").run Tryz.prog w = .ok (113, v) w := by kernel_rfl
theorem mth_txt (k : Nat) (v : Value) (w : World) : (method (k + 1) 43 v "strainer/parse.next").run Tryz.prog w = .ok (119, v) w := by kernel_rfl
theorem mth_row (k : Nat) (v : Value) (w : World) : (method (k + 1) 126 v "strainer/parse.next").run Tryz.prog w = .ok (173, v) w := by kernel_rfl

set_option maxRecDepth 100000 in
theorem nextR_any (HTR : TreesSaid) (ts : List Tk) (v : Value) (w : World) (HG : Glob w) (hT : TokAt (· < w.heap.size) w ts v) (hk : ∀ k ∈ ts, Kw k) (hz : szKs ts ≤ 40000000) :
    Calls Tryz.prog 173 #[v] w fun e w' => ∃ v', e = .returned (.iface 61 v') ∧ Tree (· < w'.heap.size) w' (treeB ts) v' ∧ Below w.heap.size w w' := by
  have HR := Lib.hid (HTR ts v w HG hT hk hz)
  obtain ⟨A, c, rfl, hc⟩ := hT.shape
  clear hT hk hc
  go_enter Tryz.func173, Tryz.ntmps173
  go_wp2_with fail
  refine HR.out.mono ?_
  rintro e w1 ⟨v', rfl, hT, hb⟩
  have HT := Lib.hid hT
  clear hT
  go_wp2_with fail
  go_ret
  exact ⟨v', rfl, HT.out, hb⟩

set_option maxRecDepth 100000 in
theorem nextL_any (l : List Nd) (v : Value) (w : World) (hT : Tree (· < w.heap.size) w l v) (hz : szL l ≤ 100000) :
    Calls Tryz.prog 41 #[v] w fun e w' => ∃ s : ByteArray, e = .returned (.iface 43 (.string s)) ∧ s.data.toList = txtL false l ∧ Below w.heap.size w w' := by
  have HR := Lib.hid (text_any _ l v w hT (fun b h => h) (by omega))
  obtain ⟨A, c, rfl, hc⟩ := hT.shape
  clear hT hc
  go_enter Tryz.func41, Tryz.ntmps41
  go_wp2_with fail
  refine HR.out.mono ?_
  rintro e w1 ⟨s, rfl, hs, hb⟩
  have HS := Lib.hid hs
  clear hs
  go_wp2_with fail
  go_ret
  exact ⟨s, rfl, HS.out, hb⟩

/-- What stands on the way from bytes to nodes: such as the nodes become R. -/
inductive Stg (R : List Nd) (wr : World) : Nat → Value → Prop
  | src (A : Option Addr) (c : Nat) (l : List UInt8) (hs : Sits wr wr.heap.size A (Lib.byteCells l)) (hm : l.length ≤ 1000) (hR : parseB (right l) = R) : Stg R wr 3 (.iface 41 (.slice A l.length c))
  | txt (s : ByteArray) (hi : isB s.data.toList = true) (hm : s.size ≤ 1000000) (hR : parseB s.data.toList = R) : Stg R wr 2 (.iface 43 (.string s))
  | row (ts : List Tk) (A : Option Addr) (n c : Nat) (hT : TokAt (· < wr.heap.size) wr ts (.slice A n c)) (hk : ∀ k ∈ ts, Kw k) (hz : szKs ts ≤ 40000000) (hR : treeB ts = R) : Stg R wr 1 (.iface 126 (.slice A n c))
  | tre (A : Option Addr) (n c : Nat) (hT : Tree (· < wr.heap.size) wr R (.slice A n c)) : Stg R wr 0 (.iface 61 (.slice A n c))
def rankS : Value → Nat
  | .iface t _ => if t = 41 then 3 else if t = 43 then 2 else if t = 126 then 1 else 0
  | _ => 0
theorem Stg.rank {R : List Nd} {wr : World} {k : Nat} {x : Value} (h : Stg R wr k x) : rankS x = k := by cases h <;> rfl
def StgRel (R : List Nd) (w : World) (x : Value) (wr : World) : Prop := Below w.heap.size w wr ∧ ∃ k, Stg R wr k x

theorem tok_big {s : ByteArray} (h : s.size ≤ 1000000) : szKs (tokB s.data.toList) ≤ 40000000 := by
  have h1 := tok_sz _ s.data.toList (Nat.le_refl _)
  have h2 : s.data.toList.length = s.size := Array.length_toList
  omega
theorem tok_kw {l : List UInt8} (h : isB l = true) : ∀ k ∈ tokB l, Kw k := by
  have key : ∀ ts : List Tk, seqOK ts → ∀ k ∈ ts, Kw k := by
    intro ts
    induction ts with
    | nil => intro _ k hk; cases hk
    | cons t ts ih =>
      intro hs k hk
      rcases List.mem_cons.1 hk with rfl | hk
      · have h1 : k.kind = 1 ∨ k.kind = 2 ∨ k.kind = 3 ∨ k.kind = 4 := by
          rcases hs.1 with h | h | h | h
          · exact .inl h.1
          · exact .inr (.inl h.1)
          · exact .inr (.inr (.inl h.1))
          · exact .inr (.inr (.inr h.1))
        unfold Kw
        rcases h1 with h | h | h | h <;> rw [h] <;> decide
      · exact ih hs.2.2 k hk
  exact key _ (tok_seq _ _ (Nat.le_refl _) h)

set_option maxHeartbeats 1000000 in
set_option maxRecDepth 100000 in
theorem parsed_any (HTR : TreesSaid) (R : List Nd) (k : Nat) (x : Value) (w : World) (HG : Glob w) (hx : Stg R w k x) :
    Calls Tryz.prog 25 #[x] w (TreeRet R w) := by
  have HX := Lib.hid hx
  clear hx
  have a1 := asr_src
  have a2 := asr_txt
  have a3 := asr_row
  have a4 := asr_tre
  have m1 := mth_src
  have m2 := mth_txt
  have m3 := mth_row
  go_enter Tryz.func25, Tryz.ntmps25
  go_wp2_with fail
  go_loopw [0] (fun x wr => StgRel R w x wr) (fun x _ => rankS x)
  case atStart => exact ⟨Below.refl _ _, k, HX.out⟩
  case round =>
    obtain ⟨hb, j, hst⟩ := hrel
    have hrk := Lib.hid hst.rank
    cases hst with
    | src A c l hs hm hR =>
      have HN := Lib.hid (nextS_any A c l wr hs hm)
      have hl := right_len l
      have HNX := Lib.hid (show ∀ W, Stg R W 2 (.iface 43 (.string ⟨(right l).toArray⟩)) from fun W => .txt _ (by simpa using isB_right l) (by simp [ByteArray.size]; omega) (by simpa using hR))
      obtain ⟨n, hn⟩ : ∃ n, l.length = n := ⟨_, rfl⟩
      obtain ⟨q, hq⟩ : ∃ q : ByteArray, ⟨(right l).toArray⟩ = q := ⟨_, rfl⟩
      rw [hn] at HN
      rw [hq] at HN HNX
      rw [hn] at hrk
      rw [hn]
      clear hs hm hR hn hq hl
      go_wp2_with fail
      refine HN.out.mono ?_
      rintro e w1 ⟨rfl, hb1⟩
      go_wp2_with fail
      go_roundw
      case rel => exact ⟨below_after hb hb1, 2, HNX.out _⟩
      case measure => rw [hrk.out, (HNX.out w1).rank]; omega
    | txt s hi hm hR =>
      have HN := Lib.hid (nextT_any s wr (HG.below hb) hm)
      have hbig := tok_big hm
      have HNX := Lib.hid (show ∀ W A n c, TokAt (· < W.heap.size) W (tokB s.data.toList) (.slice A n c) → Stg R W 1 (.iface 126 (.slice A n c)) from fun W A n c h => .row _ _ _ _ h (tok_kw hi) hbig hR)
      clear hi hm hR hbig
      go_wp2_with fail
      refine HN.out.mono ?_
      rintro e w1 ⟨v, rfl, hT, hb1⟩
      obtain ⟨A, c, rfl, hc⟩ := hT.shape
      have HS := Lib.hid (HNX.out _ _ _ _ hT)
      obtain ⟨n, hn⟩ : ∃ n, (tokB s.data.toList).length = n := ⟨_, rfl⟩
      rw [hn] at HS
      rw [hn]
      clear hT hc hn
      go_wp2_with fail
      go_roundw
      case rel => exact ⟨below_after hb hb1, 1, HS.out⟩
      case measure => rw [hrk.out, HS.out.rank]; omega
    | row ts A n c hT hk hz hR =>
      have HN := Lib.hid (nextR_any HTR ts _ wr (HG.below hb) hT hk hz)
      rw [hR] at HN
      clear hT hk hz hR
      go_wp2_with fail
      refine HN.out.mono ?_
      rintro e w1 ⟨v, rfl, hT, hb1⟩
      obtain ⟨A', c', rfl, hc'⟩ := hT.shape
      have HS := Lib.hid (Stg.tre (R := R) (wr := w1) _ _ _ hT)
      obtain ⟨m, hm⟩ : ∃ m, R.length = m := ⟨_, rfl⟩
      rw [hm] at HS
      rw [hm]
      clear hT hc' hm
      go_wp2_with fail
      go_roundw
      case rel => exact ⟨below_after hb hb1, 0, HS.out⟩
      case measure => rw [hrk.out, HS.out.rank]; omega
    | tre A n c hT =>
      have HT := Lib.hid hT
      clear hT
      go_wp2_with fail
      go_ret
      exact ⟨_, rfl, HT.out, hb⟩

end Go.Proofs.YthmnnalamaponaaGreat

/- Part BdA. -/
namespace Go.Proofs.YthmnnalamaponaaGreat
open Go.RowKit Go.Maps
set_option linter.unusedVariables false

set_option maxRecDepth 100000 in
theorem turned_grown {w w' : World} {b : Nat} (h : w.mapTurned w' b) : w.grownBy w' (some b) := by
  obtain ⟨es, clock, es', clock', hb, rfl⟩ := h
  exact ⟨rfl, rfl, rfl, by simp [Go.ChangeMaps.setBlock], fun i _ hi => Go.ChangeMaps.heap_setBlock_other hb _ (fun e => hi (by rw [e]))⟩

/-! ### how many -/
theorem zero64 (w : World) : (zeroValue 3).run Tryz.prog w = .ok (.int .i64 0) w := by kernel_rfl
/-- What a datum says of texts: a number each, 0 where there is none. -/
def CView (D : DataW Unit) (f : List UInt8 → Nat) : Prop := IsMap D ∧ ∀ l, D.atKey (.string l) (.lit (.int .i64 0)) = .lit (.int .i64 (f l))
set_option maxRecDepth 100000 in
theorem CView.empty : CView (.map []) (fun _ => 0) := ⟨isMap_empty, fun l => rfl⟩
def updN (f : List UInt8 → Nat) (k : List UInt8) (v : Nat) : List UInt8 → Nat := fun l => if l = k then v else f l
set_option maxRecDepth 100000 in
theorem CView.put {D : DataW Unit} {f : List UInt8 → Nat} (h : CView D f) (k : List UInt8) (v : Nat) : CView (D.put (.string k) (.lit (.int .i64 v))) (updN f k v) := by
  refine ⟨h.1.put _ _, fun l => ?_⟩
  unfold updN
  by_cases e : l = k
  · subst e
    rw [if_pos rfl]
    exact atKey_put_same h.1 (show WideAt.IsKeyLit (.string l) from trivial) _ _
  · rw [if_neg e]
    have hne : (Lit.string l) ≠ .string k := by intro h; injection h; exact e ‹_›
    rw [atKey_put_other hne]
    exact h.2 l
set_option maxRecDepth 100000 in
theorem CView.del {D : DataW Unit} {f : List UInt8 → Nat} (h : CView D f) (k : List UInt8) (h0 : f k = 0) : CView (D.del (.string k)) f := by
  refine ⟨h.1.del _, fun l => ?_⟩
  by_cases e : l = k
  · subst e
    rw [atKey_del_same, h0]
    rfl
  · have hne : (Lit.string l) ≠ .string k := by intro h; injection h; exact e ‹_›
    rw [atKey_del_other hne]
    exact h.2 l

/-- Block b tells how many there are of each text. -/
def CntAt (w : World) (b n : Nat) (f : List UInt8 → Nat) : Prop := ∃ D : DataW Unit, w.ownsMap Tryz.prog 9 (plainElem Tryz.prog 3) b n D ∧ CView D f
set_option maxRecDepth 100000 in
theorem CntAt.lt {w : World} {b n : Nat} {f : List UInt8 → Nat} (h : CntAt w b n f) : b < w.heap.size := by
  obtain ⟨D, h, _⟩ := h
  exact h.lt
set_option maxRecDepth 100000 in
theorem CntAt.heap {w : World} {b n : Nat} {f : List UInt8 → Nat} (h : CntAt w b n f) : ∃ es ck, w.heap[b]? = some (.map es ck) := by
  obtain ⟨D, ⟨es, clock, hh, _⟩, _⟩ := h
  exact ⟨es, clock, hh⟩
set_option maxRecDepth 100000 in
theorem CntAt.kept {w w' : World} {b n : Nat} {f : List UInt8 → Nat} (h : CntAt w b n f) (hb : w'.heap[b]? = w.heap[b]?) : CntAt w' b n f := by
  obtain ⟨D, ⟨es, clock, hh, F, hs, hD⟩, hv⟩ := h
  exact ⟨D, ⟨es, clock, hb.trans hh, F, hs, hD⟩, hv⟩
set_option maxRecDepth 100000 in
theorem CntAt.made (w : World) : CntAt (w.alloc (.map #[] 0)) w.heap.size 0 (fun _ => 0) := ⟨_, World.ownsMap_made _ _ _ _, CView.empty⟩
set_option maxRecDepth 100000 in
theorem CntAt.congr {w : World} {b n : Nat} {f g : List UInt8 → Nat} (h : CntAt w b n f) (e : ∀ l, f l = g l) : CntAt w b n g := by
  have : f = g := funext e
  subst this
  exact h
set_option maxRecDepth 100000 in
theorem wf64 (v : Nat) (hv : v ≤ 2000000000) : (Lit.int .i64 (v : Int)).wf = true := by
  have h1 : IntKind.i64.min = -9223372036854775808 := by decide
  have h2 : IntKind.i64.max = 9223372036854775807 := by decide
  show (decide (IntKind.i64.min ≤ (v : Int)) && decide ((v : Int) ≤ IntKind.i64.max)) = true
  rw [h1, h2, Bool.and_eq_true, decide_eq_true_eq, decide_eq_true_eq]
  omega

set_option maxRecDepth 100000 in
theorem lit_i64 {H : Type} {a b : Int} (h : (DataW.lit (Lit.int .i64 a) : DataW H) = DataW.lit (Lit.int .i64 b)) : a = b := by
  injection h with h
  injection h
set_option maxRecDepth 100000 in
/-- 'named[k]'. -/
theorem CntAt.look {w : World} {b n : Nat} {f : List UInt8 → Nat} (h : CntAt w b n f) (k : ByteArray) (hk : k.size ≤ maxLen) :
    (Instr.lookup 163 (.map (some b)) (.string k) false).run Tryz.prog w = .ok (.int .i64 (f k.data.toList)) w := by
  obtain ⟨D, hown, hv⟩ := h
  obtain ⟨c, hrun, hat, _⟩ := hown.lookup_int strKeyed Tryz.underlying163 Tryz.underlying3 (zero64 w) (Go.WideMaps.keyOf_string_mk Tryz.underlying9 hk)
  rw [hv.2] at hat
  exact hrun.trans (congrArg (fun z => Result.ok (Value.int .i64 z) w) (lit_i64 hat).symm)
set_option maxRecDepth 100000 in
/-- 'named[k] = v'. -/
theorem CntAt.store {w : World} {b n : Nat} {f : List UInt8 → Nat} (h : CntAt w b n f) (hn : n ≤ 2000000000) (k : ByteArray) (hk : k.size ≤ maxLen) (v : Nat) (hv : v ≤ 2000000000) (x : Int) (hx : x = (v : Int)) :
    ∃ w', (Instr.mapUpdate 163 (.map (some b)) (.string k) (.int .i64 x)).run Tryz.prog w = .ok () w' ∧ CntAt w' b (n + 1) (updN f k.data.toList v) ∧ w.grownBy w' (some b) := by
  subst hx
  obtain ⟨D, hown, hvw⟩ := h
  obtain ⟨w', hrun, r1, r2⟩ := hown.update strKeyed Tryz.underlying163 (by unfold maxLen; omega) (Go.WideMaps.keyOf_string_mk Tryz.underlying9 hk) (plainElem_int Tryz.underlying3 (wf64 v hv))
  exact ⟨w', hrun, ⟨_, r1, hvw.put _ _⟩, r2⟩
set_option maxRecDepth 100000 in
/-- 'delete(named, k)', where none is. -/
theorem CntAt.drop {w : World} {b n : Nat} {f : List UInt8 → Nat} (h : CntAt w b n f) (k : ByteArray) (hk : k.size ≤ maxLen) (h0 : f k.data.toList = 0) (ty : TypeId) :
    ∃ w', (Builtin.delete_ #[163, 9] ty #[.map (some b), .string k]).run Tryz.prog w = .ok (.tuple #[]) w' ∧ CntAt w' b n f ∧ w.grownBy w' (some b) := by
  obtain ⟨D, hown, hvw⟩ := h
  obtain ⟨w', hrun, r1, r2⟩ := hown.drop strKeyed Tryz.underlying163 (Go.WideMaps.keyOf_string_mk Tryz.underlying9 hk) ty
  exact ⟨w', hrun, ⟨_, r1, hvw.del _ h0⟩, turned_grown r2⟩

/-! ### what is done -/
def fnV : Option Nat → Value
  | none => .nilFunc
  | some f => .func (.func f) #[] #[]
def fnElem : Value → Option (DataW Unit × List MemPlace)
  | .func (.func f) a b => if a = #[] ∧ b = #[] then some (.lit (.int .i64 f), []) else none
  | .nilFunc => some (.nil, [])
  | _ => none
def fnD : Option Nat → DataW Unit
  | none => .nil
  | some f => .lit (.int .i64 f)
set_option maxRecDepth 100000 in
theorem fnElem_mk (x : Option Nat) : fnElem (fnV x) = some (fnD x, []) := by cases x <;> simp [fnElem, fnV, fnD]
set_option maxRecDepth 100000 in
theorem fnElem_inv {v : Value} {x : Option Nat} {ps : List MemPlace} (h : fnElem v = some (fnD x, ps)) : v = fnV x := by
  unfold fnElem at h
  split at h
  · rename_i f a b
    split at h
    · rename_i hab
      obtain ⟨rfl, rfl⟩ := hab
      cases x with
      | none => simp [fnD] at h
      | some g =>
        injection h with h
        injection h with h1 h2
        injection h1 with h1
        injection h1 with _ h1
        have h3 : f = g := Int.ofNat.inj h1
        rw [h3]
        rfl
    · cases h
  · cases x with
    | none => rfl
    | some g => simp [fnD] at h
  · cases h
def DView (D : DataW Unit) (f : Int → Option Nat) : Prop :=
  IsMap D ∧ ∀ i, Maps.has D (.int .i64 i) = (f i).isSome ∧ ∀ z, D.atKey (.int .i64 i) z = if (f i).isSome = true then fnD (f i) else z
set_option maxRecDepth 100000 in
theorem DView.empty : DView (.map []) (fun _ => none) := ⟨isMap_empty, fun l => ⟨rfl, fun z => rfl⟩⟩
def updI (f : Int → Option Nat) (k : Int) (v : Nat) : Int → Option Nat := fun l => if l = k then some v else f l
set_option maxRecDepth 100000 in
theorem DView.put {D : DataW Unit} {f : Int → Option Nat} (h : DView D f) (k : Int) (v : Nat) : DView (D.put (.int .i64 k) (fnD (some v))) (updI f k v) := by
  refine ⟨h.1.put _ _, fun l => ?_⟩
  unfold updI
  by_cases e : l = k
  · subst e
    rw [if_pos rfl]
    exact ⟨has_put_same h.1 (show WideAt.IsKeyLit (.int .i64 l) from trivial) _, fun z => atKey_put_same h.1 (show WideAt.IsKeyLit (.int .i64 l) from trivial) _ z⟩
  · rw [if_neg e]
    have hne : (Lit.int .i64 l) ≠ .int .i64 k := by intro h; injection h; exact e ‹_›
    refine ⟨?_, fun z => ?_⟩
    · rw [has_put_other hne]; exact (h.2 l).1
    · rw [atKey_put_other hne]; exact (h.2 l).2 z
/-- Block b tells what is done of each kind. -/
def DeedAt (w : World) (b n : Nat) (f : Int → Option Nat) : Prop := ∃ D : DataW Unit, w.ownsMap Tryz.prog 3 fnElem b n D ∧ DView D f
set_option maxRecDepth 100000 in
theorem DeedAt.lt {w : World} {b n : Nat} {f : Int → Option Nat} (h : DeedAt w b n f) : b < w.heap.size := by
  obtain ⟨D, h, _⟩ := h
  exact h.lt
set_option maxRecDepth 100000 in
theorem DeedAt.kept {w w' : World} {b n : Nat} {f : Int → Option Nat} (h : DeedAt w b n f) (hb : w'.heap[b]? = w.heap[b]?) : DeedAt w' b n f := by
  obtain ⟨D, ⟨es, clock, hh, F, hs, hD⟩, hv⟩ := h
  exact ⟨D, ⟨es, clock, hb.trans hh, F, hs, hD⟩, hv⟩
set_option maxRecDepth 100000 in
theorem DeedAt.made (w : World) : DeedAt (w.alloc (.map #[] 0)) w.heap.size 0 (fun _ => none) := ⟨_, World.ownsMap_made _ _ _ _, DView.empty⟩
set_option maxRecDepth 100000 in
theorem intKeyed : Keyed Tryz.prog 3 := int_keyed Tryz.underlying3
set_option maxRecDepth 100000 in
theorem keyOf_int {i : Int} (h : (Lit.int .i64 i).wf = true) : keyOf Tryz.prog 3 (.int .i64 i) = some (.int .i64 i) := by
  have hu : Tryz.prog.underlying 3 = some (.int .i64) := Tryz.underlying3
  simp [keyOf, mapKey, hu, h]
set_option maxRecDepth 100000 in
theorem DeedAt.insert {w : World} {b n : Nat} {f : Int → Option Nat} (h : DeedAt w b n f) (hn : n ≤ 100) (k : Int) (hk : (Lit.int .i64 k).wf = true) (v : Nat) :
    ∃ w', (Instr.mapUpdate 171 (.map (some b)) (.int .i64 k) (.func (.func v) #[] #[])).run Tryz.prog w = .ok () w' ∧ DeedAt w' b (n + 1) (updI f k v) ∧ w.grownBy w' (some b) := by
  obtain ⟨D, hown, hvw⟩ := h
  obtain ⟨w', hrun, r1, r2⟩ := hown.update intKeyed Tryz.underlying171 (by unfold maxLen; omega) (keyOf_int hk) (fnElem_mk (some v))
  exact ⟨w', hrun, ⟨_, r1, hvw.put _ _⟩, r2⟩
set_option maxRecDepth 100000 in
theorem zeroFn (w : World) : (zeroValue 169).run Tryz.prog w = .ok .nilFunc w := by kernel_rfl
set_option maxRecDepth 100000 in
theorem if_iff_fn (x : Option Nat) : (if x.isSome = true then fnD x else fnD none) = fnD x := by cases x <;> rfl
set_option maxRecDepth 100000 in
/-- 'do, ok := deeds[k]'. -/
theorem DeedAt.look {w : World} {b n : Nat} {f : Int → Option Nat} (h : DeedAt w b n f) (k : Int) (hk : (Lit.int .i64 k).wf = true) :
    (Instr.lookup 171 (.map (some b)) (.int .i64 k) true).run Tryz.prog w = .ok (.tuple #[fnV (f k), .bool (f k).isSome]) w := by
  obtain ⟨D, hown, hv⟩ := h
  obtain ⟨v, ps, hrun, hv2⟩ := hown.look_ok intKeyed Tryz.underlying171 (zeroFn w) (fnElem_mk none) (keyOf_int hk)
  rw [(hv.2 k).2, (if_iff_fn (f k))] at hv2
  rw [hrun, (hv.2 k).1, fnElem_inv hv2]

/-- What is done of each kind. -/
def dG : Int → Option Nat := updI (updI (updI (updI (fun _ => none) 1 180) 2 181) 3 182) 4 183

set_option maxHeartbeats 4000000 in
set_option maxRecDepth 100000 in
theorem deeds_any (w : World) : Calls Tryz.prog 178 #[] w fun e w' => ∃ b, e = .returned (.map (some b)) ∧ DeedAt w' b 4 dG ∧ Below w.heap.size w w' := by
  have hmm := @run_makeMap Tryz.prog
  have h0 := DeedAt.made w
  have b0 : Below w.heap.size w (w.alloc (.map #[] 0)) := below_new w _
  obtain ⟨w1, e1, h1, r1⟩ := h0.insert (by omega) 1 (by decide) 180
  have b1 : Below w.heap.size w w1 := b0.grown r1 b0.size (fun g hg => by injection hg with hg; omega)
  clear r1
  obtain ⟨w2, e2, h2, r2⟩ := h1.insert (by omega) 2 (by decide) 181
  have b2 : Below w.heap.size w w2 := b1.grown r2 b1.size (fun g hg => by injection hg with hg; omega)
  clear r2
  obtain ⟨w3, e3, h3, r3⟩ := h2.insert (by omega) 3 (by decide) 182
  have b3 : Below w.heap.size w w3 := b2.grown r3 b2.size (fun g hg => by injection hg with hg; omega)
  clear r3
  obtain ⟨w4, e4, h4, r4⟩ := h3.insert (by omega) 4 (by decide) 183
  have b4 : Below w.heap.size w w4 := b3.grown r4 b3.size (fun g hg => by injection hg with hg; omega)
  clear r4
  have H4 := Lib.hid (And.intro h4 b4)
  clear h0 h1 h2 h3 h4 b0 b1 b2 b3 b4
  go_enter Tryz.func178, Tryz.ntmps178
  go_wp2_with fail
  go_ret
  exact ⟨_, rfl, H4.out.1, H4.out.2⟩

end Go.Proofs.YthmnnalamaponaaGreat

/- Part BdB. -/
namespace Go.Proofs.YthmnnalamaponaaGreat
open Go.RowKit
set_option linter.unusedVariables false

theorem size_bld : (Tryz.prog.info? 92).map (·.size) = some 2 := by kernel_rfl
theorem lies_bld : liesAt Tryz.prog Tryz.prog.depth 166 (7 / Tryz.prog.cellsOf 166) 4 92 1 = true := by kernel_rfl
theorem info_u8b : (Tryz.prog.info? 5).map (fun i => (i.zero, i.size, i.bytes)) = some (some (.int .u8 0), 1, 1) := by kernel_rfl
theorem cells_u8 : Tryz.prog.cellsOf 5 = 1 := by kernel_rfl

set_option maxHeartbeats 1000000 in
set_option maxRecDepth 100000 in
theorem check7_fresh (g : Nat) (k nm va tx bv vk : Value) (w : World) (hb : w.heap[g]? = some (.cells #[k, nm, va, tx, .pointer none, bv, vk] 166 (0, 0))) :
    Calls Tryz.prog 85 #[.pointer (some ⟨g, 4, none⟩)] w fun e w' => e = .returned (.tuple #[]) ∧ w' = w.setCell ⟨g, 4, none⟩ (.pointer (some ⟨g, 4, none⟩)) := by
  obtain ⟨j, hj, hjs⟩ := Option.map_eq_some_iff.1 size_bld
  have h0 : w.cell? ⟨g, 4, none⟩ = some (.pointer none) := cell_at hb 4
  have hsh : w.shape? g = some (166, 7) := by simp [World.shape?, hb]
  have hfz : w.frozen? ⟨g, 4, none⟩ = false := Lib.frozen_of_heap hb 4
  clear hb
  go_enter Tryz.func85, Tryz.ntmps85
  go_wp2
  rw [Lib.run_to_unsafe w ⟨g, 4, none⟩ Tryz.underlying90 Tryz.underlying102 hj (by rw [hjs]; decide) hsh (show 4 < 7 by omega)]
  simp only [Result.andThen]
  rw [Oper.upon_value]
  go_wp2
  rw [run_callFunc_extern Tryz.func92 (by kernel_rfl) (by kernel_rfl) (by kernel_rfl) (e := Extern.AbiNoEscape.same) (by kernel_rfl)]
  rw [Lib.run_noEscape]
  simp only [Result.andThen]
  rw [Oper.upon_value]
  go_wp2
  rw [Lib.run_from_unsafe w ⟨g, 4, none⟩ Tryz.underlying102 Tryz.underlying90 hj hsh lies_bld]
  simp only [Result.andThen]
  rw [Oper.upon_value]
  go_wp2
  go_end0
  exact ⟨rfl, rfl⟩

set_option maxHeartbeats 1000000 in
set_option maxRecDepth 100000 in
theorem check7_used (g : Nat) (w : World) (h0 : w.cell? ⟨g, 4, none⟩ = some (.pointer (some ⟨g, 4, none⟩))) :
    Calls Tryz.prog 85 #[.pointer (some ⟨g, 4, none⟩)] w fun e w' => e = .returned (.tuple #[]) ∧ w' = w := by
  go_enter Tryz.func85, Tryz.ntmps85
  obtain ⟨j, hj, hjs⟩ := Option.map_eq_some_iff.1 size_bld
  go_wp2
  rw [Lib.run_neq_ptr_same w _ Tryz.underlying90 hj]
  go_wp2
  go_end0
  exact ⟨rfl, rfl⟩

/-- A row of bytes, one text longer; and where the new row lies. -/
theorem run_append_str_new {w : World} (base : Nat) (ty : TypeId) (v : Value) (n : Nat) (xs : List Value) (hown : w.ownsRowF base 5 1 v n xs) (s : ByteArray) (hbytes : n + s.size ≤ 1000000000) (hbase : base ≤ w.heap.size) :
    ∃ v' w', (Builtin.append_ #[27, 9] ty #[v, .string s]).run Tryz.prog w = .ok v' w' ∧ w'.ownsRowF base 5 1 v' (n + s.size) (xs ++ Lib.strCells s) ∧ w.grownBy w' v.ownBlock ∧ (v'.ownBlock = v.ownBlock ∨ ∀ g, v'.ownBlock = some g → w.heap.size ≤ g) := by
  obtain ⟨i0, hi, hz0, hz1, hz2⟩ := info_parts info_u8b
  obtain ⟨v', w', hrun, ho, hg, _⟩ := Lib.run_append_own_stringF (P := Tryz.prog) w base 27 9 ty 5 i0 Tryz.underlying27 Tryz.underlying9 hi hz0 hz1 hz2 v n xs hown s (by unfold maxLen; omega) (by omega) hbase
  refine ⟨v', w', hrun, ho, hg, ?_⟩
  rcases hown.2 with ⟨rfl, rfl⟩ | ⟨g, cap, cur, fz, rfl, hbg, hgh, hfz, hnc, hcm, hcs, htake⟩
  · have hxs : xs = [] := by have := hown.1; simp at this; exact this
    subst hxs
    obtain ⟨v2, w2, hrun2, ho2, _⟩ := Lib.run_append_own_stringF (P := Tryz.prog) w w.heap.size 27 9 ty 5 i0 Tryz.underlying27 Tryz.underlying9 hi hz0 hz1 hz2 (.slice none 0 0) 0 [] ⟨rfl, .inl ⟨rfl, rfl⟩⟩ s (by unfold maxLen; omega) (by omega) (Nat.le_refl _)
    rw [hrun] at hrun2
    injection hrun2 with e1 e2
    subst e1
    subst e2
    exact .inr fun g hg => (ho2.lt g hg).1
  · by_cases hfit : n + s.size ≤ cap
    · have hr := Lib.run_append_room_stringF (P := Tryz.prog) w 27 9 ty 5 i0 Tryz.underlying27 Tryz.underlying9 hi hz1 g n cap cur fz hgh (by omega) s hfit (by omega)
      rw [hrun] at hr
      injection hr with e1 e2
      subst e1
      exact .inl rfl
    · have hxl : xs.length = n := by simpa using hown.1
      have hr := Lib.run_append_grow_string (P := Tryz.prog) w 27 9 ty 5 i0 (.int .u8 0) Tryz.underlying27 Tryz.underlying9 hi hz0 ⟨g, 0, none⟩ n cap xs (by rw [hz1]; omega) (hown.cells (g := g) rfl) s (by omega) (by omega) (by rw [hz2]; exact growslice_fits (by omega) (by omega))
      rw [hrun] at hr
      injection hr with e1 e2
      subst e1
      exact .inr fun g' hg' => by
        have : w.heap.size = g' := by simpa [Value.ownBlock] using hg'
        omega

/-- An append whose run is known. -/
theorem wpList_run_append2 {w w' : World} {ops : Array Oper} {rest : List Oper} {o : Oper} {a : Act} {Q : Exit → Act → World → Prop} {t u : TypeId} (hgd : o.guard = none) (s x : Operand)
    (ho : o.op = .call { callee := .builtin .append, args := #[s, x], argTypes := #[t, u] }) (v1 v2 v : Value) (hs : a.eval s = v1) (hx : a.eval x = v2) (hrun : (Builtin.append_ #[t, u] o.type #[v1, v2]).run Tryz.prog w = .ok v w')
    (hK : wpList Tryz.prog ops Q rest (a.put o.dst v) w') : wpList Tryz.prog ops Q (o :: rest) a w := by
  refine wpList_plain hgd fun K' hK' => ?_
  unfold Oper.wp
  simp [execOp, ho, resolve, invoke, builtin, hs, hx, hrun, Result.andThen]
  exact hK' _ _ hK

/-- What a call that writes a text behind a node's own does. -/
structure Wrote (lo g : Nat) (k nm va tx bv vk : Value) (m : List Value) (s : ByteArray) (w w' : World) : Prop where
  blk : ∃ bv', w'.heap[g]? = some (.cells #[k, nm, va, tx, .pointer (some ⟨g, 4, none⟩), bv', vk] 166 (0, 0)) ∧ w'.ownsRowF lo 5 1 bv' (m.length + s.size) (m ++ Lib.strCells s) ∧ (bv'.ownBlock = bv.ownBlock ∨ ∀ b, bv'.ownBlock = some b → w.heap.size ≤ b)
  os : w'.os = w.os
  tape : w'.tape = w.tape
  output : w'.output = w.output
  size : w.heap.size ≤ w'.heap.size
  kept : ∀ b, b < w.heap.size → b ≠ g → bv.ownBlock ≠ some b → w'.heap[b]? = w.heap[b]?

set_option maxHeartbeats 2000000 in
set_option maxRecDepth 100000 in
theorem write7_any (lo g : Nat) (k nm va tx bp bv vk : Value) (m : List Value) (s : ByteArray) (w : World) (hb : w.heap[g]? = some (.cells #[k, nm, va, tx, bp, bv, vk] 166 (0, 0)))
    (hbp : bp = .pointer none ∨ bp = .pointer (some ⟨g, 4, none⟩)) (hown : w.ownsRowF lo 5 1 bv m.length m) (hz : m.length + s.size ≤ 1000000000) (hlo : lo ≤ w.heap.size) :
    Calls Tryz.prog 79 #[.pointer (some ⟨g, 4, none⟩), .string s] w fun e w' => (∃ x, e = .returned x) ∧ Wrote lo g k nm va tx bv vk m s w w' := by
  have hgl : g < w.heap.size := (Array.getElem?_eq_some_iff.1 hb).1
  have hne : bv.ownBlock ≠ some g := Lib.ownBlock_neF hown hb (by decide)
  have HCC : Calls Tryz.prog 85 #[.pointer (some ⟨g, 4, none⟩)] w fun e w' => e = .returned (.tuple #[]) ∧ w'.heap[g]? = some (.cells #[k, nm, va, tx, .pointer (some ⟨g, 4, none⟩), bv, vk] 166 (0, 0)) ∧ w.grownBy w' (some g) ∧ w'.heap.size = w.heap.size := by
    rcases hbp with rfl | rfl
    · refine (check7_fresh g k nm va tx bv vk w hb).mono ?_
      rintro e w' ⟨rfl, rfl⟩
      refine ⟨rfl, ?_, ⟨rfl, rfl, rfl, by simp, fun i _ hi => heap_setCell_other _ _ _ _ (fun e => hi (by rw [e]))⟩, by simp⟩
      have := heap_setCell_same w g 4 _ _ (.pointer (some ⟨g, 4, none⟩)) hb
      simpa using this
    · refine (check7_used g w (cell_at hb 4)).mono ?_
      rintro e w' ⟨rfl, rfl⟩
      exact ⟨rfl, hb, ⟨rfl, rfl, rfl, Nat.le_refl _, fun i _ _ => rfl⟩, rfl⟩
  have HC := Lib.hid HCC
  have HO := Lib.hid hown
  have HN := Lib.hid (And.intro hgl hne)
  clear HCC hown hne hgl hb hbp
  go_enter Tryz.func79, Tryz.ntmps79
  go_wp2_with fail
  refine HC.out.mono ?_
  rintro e w1 ⟨rfl, hb1, hg1, hs1⟩
  obtain ⟨hgl, hne⟩ := HN.out
  have ho1 : w1.ownsRowF lo 5 1 bv m.length m := HO.out.kept hg1 (.inr hne)
  obtain ⟨v', w2, hrun, ho2, hg2, hnew⟩ := run_append_str_new (w := w1) lo 27 bv m.length m ho1 s hz (by omega)
  have hb2 : w2.heap[g]? = some (.cells #[k, nm, va, tx, .pointer (some ⟨g, 4, none⟩), bv, vk] 166 (0, 0)) := (hg2.block g (by omega) (fun e => hne e.symm)).trans hb1
  obtain ⟨ao, c, rfl⟩ : ∃ ao c, v' = .slice ao (m.length + s.size) c := by
    rcases ho2.2 with ⟨hv, h0⟩ | ⟨g', cap, cur, fz, hv, _⟩
    · exact ⟨_, _, by rw [h0]; exact hv⟩
    · exact ⟨_, _, hv⟩
  have c1 : w1.cell? ⟨g, 5, none⟩ = some bv := cell_at hb1 5
  have d1 : w2.cell? ⟨g, 5, none⟩ = some bv := cell_at hb2 5
  have f1 : w2.frozen? ⟨g, 5, none⟩ = false := Lib.frozen_of_heap hb2 5
  have hne2 : (Value.slice ao (m.length + s.size) c).ownBlock ≠ some g := Lib.ownBlock_neF ho2 hb2 (by decide)
  have hg3 : w2.grownBy (w2.setCell ⟨g, 5, none⟩ (.slice ao (m.length + s.size) c)) (some g) := ⟨rfl, rfl, rfl, by simp, fun i _ hi => heap_setCell_other _ _ _ _ (fun e => hi (by rw [e]))⟩
  have HE := Lib.hid (show Wrote lo g k nm va tx bv vk m s w (w2.setCell ⟨g, 5, none⟩ (.slice ao (m.length + s.size) c)) from by
    refine ⟨⟨_, by have := heap_setCell_same w2 g 5 _ _ (.slice ao (m.length + s.size) c) hb2; simpa using this, ho2.kept hg3 (.inr hne2), ?_⟩, ?_, ?_, ?_, ?_, ?_⟩
    · rcases hnew with h | h
      · exact .inl h
      · exact .inr fun b hb => by have := h b hb; omega
    · exact hg3.os.trans (hg2.os.trans hg1.os)
    · exact hg3.tape.trans (hg2.tape.trans hg1.tape)
    · exact hg3.output.trans (hg2.output.trans hg1.output)
    · have h2 := hg2.size; have h3 := hg3.size; omega
    · intro b hb hbg hbv
      have h2 := hg2.size
      exact (hg3.block b (by omega) (fun e => hbg (by injection e))).trans ((hg2.block b (by omega) (fun e => hbv e.symm)).trans (hg1.block b hb (fun e => hbg (by injection e)))))
  clear ho1 ho2 hb1 hb2 hg1 hg2 hg3 hnew hne2
  go_wp2_with (at_builtin; refine wpList_run_append2 rfl _ _ rfl _ _ _ rfl rfl hrun ?_)
  go_ret2
  exact ⟨⟨_, rfl⟩, HE.out⟩

/-! ### String -/
/-- What a row of bytes holds, that may be read: nothing, or a row's head. -/
def BufAt (w : World) (bv : Value) (l : List UInt8) : Prop :=
  (bv = .slice none 0 0 ∧ l = []) ∨ (l ≠ [] ∧ ∃ g cap cur fz, bv = .slice (some ⟨g, 0, none⟩) l.length cap ∧ w.heap[g]? = some (.cells cur 5 fz) ∧ l.length ≤ cap ∧ cap ≤ maxLen ∧ cur.size = cap ∧ cur.toList.take l.length = Lib.byteCells l)

/-- Two worlds hold the same, but for rows of bytes that may not be written any more: those that F tells, no farther than it tells. -/
structure Calm (F : Nat → Nat → Prop) (w w' : World) : Prop where
  os : w'.os = w.os
  tape : w'.tape = w.tape
  output : w'.output = w.output
  size : w.heap.size ≤ w'.heap.size
  blk : ∀ k, k < w.heap.size → w'.heap[k]? = w.heap[k]? ∨ ∃ cur fz fz' m, w.heap[k]? = some (.cells cur 5 fz) ∧ w'.heap[k]? = some (.cells cur 5 fz') ∧ F k m ∧ (fz'.2 ≤ fz.2 ∨ fz'.2 ≤ m)
theorem Calm.below {F : Nat → Nat → Prop} {w w' : World} (h : Below w.heap.size w w') : Calm F w w' := ⟨h.os, h.tape, h.output, h.size, fun k hk => .inl (h.block k hk)⟩
theorem Calm.refl (F : Nat → Nat → Prop) (w : World) : Calm F w w := Calm.below (Below.refl _ _)
theorem Calm.trans {F : Nat → Nat → Prop} {w w' w'' : World} (h : Calm F w w') (h' : Calm F w' w'') : Calm F w w'' := by
  refine ⟨h'.os.trans h.os, h'.tape.trans h.tape, h'.output.trans h.output, Nat.le_trans h.size h'.size, fun k hk => ?_⟩
  rcases h.blk k hk with e | ⟨cur, fz, fz', m, e1, e2, e3, e4⟩
  · rcases h'.blk k (Nat.lt_of_lt_of_le hk h.size) with e' | ⟨cur, fz, fz', m, e1, e2, e3, e4⟩
    · exact .inl (e'.trans e)
    · exact .inr ⟨cur, fz, fz', m, e.symm.trans e1, e2, e3, e4⟩
  · rcases h'.blk k (Nat.lt_of_lt_of_le hk h.size) with e' | ⟨cur2, fz2, fz2', m2, d1, d2, d3, d4⟩
    · exact .inr ⟨cur, fz, fz', m, e1, e'.trans e2, e3, e4⟩
    · rw [e2] at d1
      injection d1 with d1
      injection d1 with d1a d1b d1c
      subst d1a
      subst d1c
      rcases d4 with d4 | d4
      · refine .inr ⟨cur, fz, fz2', m, e1, d2, e3, ?_⟩
        rcases e4 with e4 | e4
        · exact .inl (Nat.le_trans d4 e4)
        · exact .inr (Nat.le_trans d4 e4)
      · exact .inr ⟨cur, fz, fz2', m2, e1, d2, d3, .inr d4⟩
theorem Calm.mono {F G : Nat → Nat → Prop} {w w' : World} (h : Calm F w w') (hF : ∀ k m, F k m → G k m) : Calm G w w' :=
  ⟨h.os, h.tape, h.output, h.size, fun k hk => (h.blk k hk).imp id fun ⟨cur, fz, fz', m, e1, e2, e3, e4⟩ => ⟨cur, fz, fz', m, e1, e2, hF _ _ e3, e4⟩⟩
theorem Calm.cell {F : Nat → Nat → Prop} {w w' : World} (h : Calm F w w') {p : Addr} (hp : p.block < w.heap.size) : w'.cell? p = w.cell? p := by
  rcases h.blk p.block hp with e | ⟨cur, fz, fz', m, e1, e2, _⟩
  · exact World.cell?_of_block e
  · unfold World.cell?
    rw [e1, e2]
theorem Calm.kept {F : Nat → Nat → Prop} {S : Nat → Prop} {w w' : World} (h : Calm F w w') (hS : ∀ b, S b → b < w.heap.size) : Kept S w w' := fun b hs j => h.cell (p := ⟨b, j, none⟩) (hS b hs)
/-- A block that is no row of bytes. -/
theorem Calm.same {F : Nat → Nat → Prop} {w w' : World} (h : Calm F w w') {k : Nat} {o : Obj} (hk : w.heap[k]? = some o) (ho : ∀ c fz, o ≠ .cells c 5 fz) : w'.heap[k]? = some o := by
  have hlt := (Array.getElem?_eq_some_iff.1 hk).1
  rcases h.blk k hlt with e | ⟨cur, fz, fz', m, e1, _⟩
  · exact e.trans hk
  · rw [hk] at e1
    injection e1 with e1
    exact absurd e1 (ho _ _)
theorem Calm.bel {F : Nat → Nat → Prop} {w w' : World} {B : Nat} (h : Calm F w w') (hB : B ≤ w.heap.size) (hF : ∀ k m, F k m → B ≤ k) : Below B w w' := by
  refine ⟨h.os, h.tape, h.output, h.size, fun k hk => ?_⟩
  rcases h.blk k (Nat.lt_of_lt_of_le hk hB) with e | ⟨cur, fz, fz', m, _, _, e3, _⟩
  · exact e
  · have := hF k m e3
    omega
theorem BufAt.calm {F : Nat → Nat → Prop} {w w' : World} {bv : Value} {l : List UInt8} (h : BufAt w bv l) (hc : Calm F w w') : BufAt w' bv l := by
  rcases h with h | ⟨h0, g, cap, cur, fz, hv, hg, r⟩
  · exact .inl h
  · have hlt := (Array.getElem?_eq_some_iff.1 hg).1
    rcases hc.blk g hlt with e | ⟨cur', fz1, fz', m, e1, e2, _⟩
    · exact .inr ⟨h0, g, cap, cur, fz, hv, e.trans hg, r⟩
    · rw [hg] at e1
      injection e1 with e1
      injection e1 with e1 _ _
      subst e1
      exact .inr ⟨h0, g, cap, cur, fz', hv, e2, r⟩
theorem calm_freeze {F : Nat → Nat → Prop} {w : World} {g n : Nat} {cur : Array Value} {fz : Nat × Nat} (hg : w.heap[g]? = some (.cells cur 5 fz)) (hF : F g n) : Calm F w (w.freeze ⟨g, 0, none⟩ n) := by
  unfold World.freeze
  split
  · exact Calm.refl _ _
  · refine ⟨rfl, rfl, rfl, by simp, fun k hk => ?_⟩
    by_cases e : g = k
    · subst e
      obtain ⟨lo, hi⟩ := fz
      refine .inr ⟨cur, (lo, hi), (if lo == hi then (0, 0 + n) else (min lo 0, max hi (0 + n))), n, hg, ?_, hF, ?_⟩
      · simp only [Array.getElem?_modify, hg]
        simp
      · split
        · exact .inr (by simp)
        · simp only
          omega
    · refine .inl ?_
      simp only [Array.getElem?_modify]
      rw [if_neg e]

set_option maxHeartbeats 2000000 in
set_option maxRecDepth 100000 in
theorem string7_any (F : Nat → Nat → Prop) (g : Nat) (bv : Value) (l : List UInt8) (w : World) (c1 : w.cell? ⟨g, 5, none⟩ = some bv) (hB : BufAt w bv l) (hF : ∀ k, bv.ownBlock = some k → F k l.length) :
    Calls Tryz.prog 80 #[.pointer (some ⟨g, 4, none⟩)] w fun e w' => e = .returned (.string ⟨l.toArray⟩) ∧ Calm F w w' := by
  have mixed : Tryz.prog.follows Departure.mixedOrders = true := by kernel_rfl
  have c2 : w.drew.cell? ⟨g, 5, none⟩ = some bv := c1
  rcases hB with ⟨rfl, rfl⟩ | ⟨h0, b, cap, cur, fz, rfl, hb, hlc, hcm, hcs, htk⟩
  · have hUS := fun (W : World) (q : Option Addr) => Lib.run_unsafeString_none (P := Tryz.prog) W 100 3 9 q
    have hSD : (Builtin.unsafeSliceData_ #[27] 100 #[.slice none 0 0]).run Tryz.prog w.drew = .ok (.pointer none) w.drew := rfl
    clear hF
    go_enter Tryz.func80, Tryz.ntmps80
    go_wp2
    go_region
    all_goals (go_wp2; go_ret; exact ⟨rfl, Calm.below ((Below.refl _ w).drew)⟩)
  · have hl0 : l.length ≠ 0 := by simpa using h0
    unfold maxLen at hcm
    have hSD : (Builtin.unsafeSliceData_ #[27] 100 #[.slice (some ⟨b, 0, none⟩) l.length cap]).run Tryz.prog w.drew = .ok (.pointer (some ⟨b, 0, none⟩)) w.drew :=
      Lib.run_unsafeSliceData_row _ _ _ _ _ _ (by omega)
    have hb' : w.drew.heap[b]? = some (.cells cur 5 fz) := hb
    have hUS : (Builtin.unsafeString_ #[100, 3] 9 #[.pointer (some ⟨b, 0, none⟩), .int .i64 l.length]).run Tryz.prog w.drew = .ok (.string ⟨l.toArray⟩) (w.drew.freeze ⟨b, 0, none⟩ l.length) := by
      refine Lib.run_unsafeString_row w.drew 100 3 9 5 Tryz.underlying100 cells_u8 b cur.size (by simp [World.shape?, hb']) l h0 (by omega) (by omega) ?_
      intro j x hx
      have hj := (List.getElem?_eq_some_iff.1 hx).1
      have h1 : (Lib.byteCells l)[j]? = some (.int .u8 x.toNat) := by simp [Lib.byteCells, hx]
      rw [← htk, List.getElem?_take, if_pos hj] at h1
      rw [add_zero_addr]
      unfold World.cell?
      rw [hb']
      simpa using h1
    have HE := Lib.hid (show Calm F w (w.drew.freeze ⟨b, 0, none⟩ l.length) from (Calm.below ((Below.refl _ w).drew)).trans (calm_freeze hb' (hF b rfl)))
    clear hF hb hb' htk hcs hlc hcm
    go_enter Tryz.func80, Tryz.ntmps80
    go_wp2
    go_region
    all_goals (go_wp2; go_ret; exact ⟨rfl, HE.out⟩)

end Go.Proofs.YthmnnalamaponaaGreat

/- Part BdT. -/
namespace Go.Proofs.YthmnnalamaponaaGreat
open Go.RowKit
set_option linter.unusedVariables false

def pcell (g : Nat) : Value := .pointer (some ⟨g, 0, none⟩)
/-- The kind of the token that told a node. -/
def tkd (k : Int) : Int := if k = 1 then 1 else if k = 2 then 3 else 4
/-- A node, where it lies, and the values in its cells: its text is pre, with mo behind it. -/
structure Rp where
  n : Nd
  g : Nat
  va : Value
  vk : Value
  pre : ByteArray
  bv : Value
  mo : List UInt8
/-- Its cells. -/
structure NdAt (w : World) (r : Rp) : Prop where
  c0 : w.cell? ⟨r.g, 0, none⟩ = some (.int .i64 (tkd r.n.kind))
  c1 : w.cell? ⟨r.g, 1, none⟩ = some (.string r.n.name)
  c2 : w.cell? ⟨r.g, 2, none⟩ = some r.va
  c3 : w.cell? ⟨r.g, 3, none⟩ = some (.string r.pre)
  c5 : w.cell? ⟨r.g, 5, none⟩ = some r.bv
  c6 : w.cell? ⟨r.g, 6, none⟩ = some r.vk
/-- An element, a text (whose bytes F tells of), or a comment. -/
inductive Knd (F : Nat → Nat → Prop) (w : World) (r : Rp) : Prop
  | elem (hk : r.n.kind = 1) (ht : r.n.text = ⟨#[]⟩)
  | text (hk : r.n.kind = 2) (hn : r.n.name = ⟨#[]⟩) (ha : r.n.attrs = []) (hc : r.n.kids = []) (ht : r.n.text = r.pre ++ ⟨r.mo.toArray⟩) (hb : BufAt w r.bv r.mo) (hF : ∀ k, r.bv.ownBlock = some k → F k r.mo.length)
  | comm (hk : r.n.kind = 3) (hn : r.n.name = ⟨#[]⟩) (ha : r.n.attrs = []) (hc : r.n.kids = []) (ht : r.n.text = r.pre)

/-- The slice v points to the nodes l, with all that hangs on them, in blocks of S. -/
inductive PTree (S : Nat → Prop) (F : Nat → Nat → Prop) (w : World) : List Nd → Value → Prop
  | mk (R : List Rp) (l : List Nd) (A : Option Addr) (c : Nat) (hl : R.map Rp.n = l) (hc : l.length ≤ c) (hcell : Cells S w A (R.map fun r => pcell r.g)) (hS : ∀ r ∈ R, S r.g)
      (hn : ∀ r ∈ R, NdAt w r) (hkn : ∀ r ∈ R, Knd F w r) (hat : ∀ r ∈ R, AttrsAt S w r.n.attrs r.va) (hk : ∀ r ∈ R, PTree S F w r.n.kids r.vk) : PTree S F w l (.slice A l.length c)
/-- One of them. -/
structure POne (S : Nat → Prop) (F : Nat → Nat → Prop) (w : World) (r : Rp) : Prop where
  inS : S r.g
  nd : NdAt w r
  kn : Knd F w r
  at_ : AttrsAt S w r.n.attrs r.va
  kids : PTree S F w r.n.kids r.vk

/-- What stays: cells in blocks of S, and rows of bytes as such. -/
structure KeptB (S : Nat → Prop) (F : Nat → Nat → Prop) (w w' : World) : Prop where
  cell : Kept S w w'
  buf : ∀ k m, F k m → w'.heap[k]? = w.heap[k]? ∨ ∃ cur fz fz', w.heap[k]? = some (.cells cur 5 fz) ∧ w'.heap[k]? = some (.cells cur 5 fz')
theorem KeptB.calm {S : Nat → Prop} {F G : Nat → Nat → Prop} {w w' : World} (h : Calm G w w') (hS : ∀ b, S b → b < w.heap.size) (hF : ∀ k m, F k m → k < w.heap.size) : KeptB S F w w' :=
  ⟨h.kept hS, fun k m hk => (h.blk k (hF k m hk)).imp id fun ⟨cur, fz, fz', m, e1, e2, _⟩ => ⟨cur, fz, fz', e1, e2⟩⟩
theorem NdAt.keep {S : Nat → Prop} {w w' : World} {r : Rp} (h : NdAt w r) (hk : Kept S w w') (hS : S r.g) : NdAt w' r :=
  ⟨(hk _ hS 0).trans h.c0, (hk _ hS 1).trans h.c1, (hk _ hS 2).trans h.c2, (hk _ hS 3).trans h.c3, (hk _ hS 5).trans h.c5, (hk _ hS 6).trans h.c6⟩
theorem BufAt.keep {S : Nat → Prop} {F : Nat → Nat → Prop} {w w' : World} {bv : Value} {l : List UInt8} (h : BufAt w bv l) (hk : KeptB S F w w') (hF : ∀ k, bv.ownBlock = some k → F k l.length) : BufAt w' bv l := by
  rcases h with h | ⟨h0, g, cap, cur, fz, hv, hg, r⟩
  · exact .inl h
  · rcases hk.buf g l.length (hF g (by rw [hv]; rfl)) with e | ⟨cur', fz1, fz', e1, e2⟩
    · exact .inr ⟨h0, g, cap, cur, fz, hv, e.trans hg, r⟩
    · rw [hg] at e1
      injection e1 with e1
      injection e1 with e1 _ _
      subst e1
      exact .inr ⟨h0, g, cap, cur, fz', hv, e2, r⟩
theorem Knd.keep {S : Nat → Prop} {F : Nat → Nat → Prop} {w w' : World} {r : Rp} (h : Knd F w r) (hk : KeptB S F w w') : Knd F w' r := by
  cases h with
  | elem a b => exact .elem a b
  | text a b c d e f g => exact .text a b c d e (f.keep hk g) g
  | comm a b c d e => exact .comm a b c d e
theorem Knd.mono {F G : Nat → Nat → Prop} {w : World} {r : Rp} (h : Knd F w r) (hF : ∀ k m, F k m → G k m) : Knd G w r := by
  cases h with
  | elem a b => exact .elem a b
  | text a b c d e f g => exact .text a b c d e f fun k hk => hF _ _ (g k hk)
  | comm a b c d e => exact .comm a b c d e
theorem PTree.keep {S : Nat → Prop} {F : Nat → Nat → Prop} {w w' : World} {l : List Nd} {v : Value} (h : PTree S F w l v) (hk : KeptB S F w w') : PTree S F w' l v := by
  induction h with
  | mk R l A c hl hc hcell hS hn hkn hat hkids ih => exact .mk R l A c hl hc (hcell.keep hk.cell) hS (fun r hr => (hn r hr).keep hk.cell (hS r hr)) (fun r hr => (hkn r hr).keep hk) (fun r hr => (hat r hr).keep hk.cell) ih
theorem PTree.mono {S S' : Nat → Prop} {F G : Nat → Nat → Prop} {w : World} {l : List Nd} {v : Value} (h : PTree S F w l v) (hS : ∀ b, S b → S' b) (hF : ∀ k m, F k m → G k m) : PTree S' G w l v := by
  induction h with
  | mk R l A c hl hc hcell hs hn hkn hat hkids ih => exact .mk R l A c hl hc (hcell.mono hS) (fun r hr => hS _ (hs r hr)) hn (fun r hr => (hkn r hr).mono hF) (fun r hr => (hat r hr).mono hS) ih
theorem PTree.nil (S : Nat → Prop) (F : Nat → Nat → Prop) (w : World) : PTree S F w [] (.slice none 0 0) := .mk [] [] none 0 rfl (Nat.le_refl _) (Cells.nil _ _ _) (by simp) (by simp) (by simp) (by simp) (by simp)
theorem PTree.shape {S : Nat → Prop} {F : Nat → Nat → Prop} {w : World} {l : List Nd} {v : Value} (h : PTree S F w l v) : ∃ A c, v = .slice A l.length c ∧ l.length ≤ c := by
  cases h with
  | mk R l A c hl hc hcell hS hn hkn hat hkids => exact ⟨A, c, rfl, hc⟩
theorem PTree.at_ {S : Nat → Prop} {F : Nat → Nat → Prop} {w : World} {l : List Nd} {A : Option Addr} {n c : Nat} (h : PTree S F w l (.slice A n c)) {k : Nat} (hk : k < l.length) :
    ∃ b o r, A = some ⟨b, o, none⟩ ∧ S b ∧ w.cell? ⟨b, o + k, none⟩ = some (pcell r.g) ∧ l[k]? = some r.n ∧ POne S F w r := by
  cases h with
  | mk R l A c hl hc hcell hS hn hkn hat hkids =>
    subst hl
    rw [List.length_map] at hk
    obtain ⟨b, o, rfl, hb, hx⟩ := hcell (by rw [List.length_map]; omega)
    obtain ⟨r, hr⟩ : ∃ r, R[k]? = some r := ⟨_, List.getElem?_eq_getElem hk⟩
    have hm := List.mem_of_getElem? hr
    exact ⟨b, o, r, rfl, hb, hx k _ (by rw [List.getElem?_map, hr]; rfl), by rw [List.getElem?_map, hr]; rfl, ⟨hS r hm, hn r hm, hkn r hm, hat r hm, hkids r hm⟩⟩
theorem POne.keep {S : Nat → Prop} {F : Nat → Nat → Prop} {w w' : World} {r : Rp} (h : POne S F w r) (hk : KeptB S F w w') : POne S F w' r :=
  ⟨h.inS, h.nd.keep hk.cell h.inS, h.kn.keep hk, h.at_.keep hk.cell, h.kids.keep hk⟩
theorem POne.mono {S S' : Nat → Prop} {F G : Nat → Nat → Prop} {w : World} {r : Rp} (h : POne S F w r) (hS : ∀ b, S b → S' b) (hF : ∀ k m, F k m → G k m) : POne S' G w r :=
  ⟨hS _ h.inS, h.nd, h.kn.mono hF, h.at_.mono hS, h.kids.mono hS hF⟩
/-- Nodes one by one, and the row that points to them. -/
theorem PTree.of {S : Nat → Prop} {F : Nat → Nat → Prop} {w : World} (R : List Rp) (A : Option Addr) (n c : Nat) (hn : n = R.length) (hc : R.length ≤ c) (hcell : Cells S w A (R.map fun r => pcell r.g)) (h : ∀ r ∈ R, POne S F w r) : PTree S F w (R.map Rp.n) (.slice A n c) := by
  have := PTree.mk (S := S) (F := F) (w := w) R (R.map Rp.n) A c rfl (by rw [List.length_map]; exact hc) hcell (fun r hr => (h r hr).inS) (fun r hr => (h r hr).nd) (fun r hr => (h r hr).kn) (fun r hr => (h r hr).at_) (fun r hr => (h r hr).kids)
  rw [List.length_map] at this
  rw [hn]
  exact this

/-! ### attributes in new memory -/
/-- They may be written. -/
def FreeA (w : World) (v : Value) : Prop := ∀ b o n c, v = .slice (some ⟨b, o, none⟩) n c → ∃ cur, w.heap[b]? = some (.cells cur 39 (0, 0))
theorem FreeA.nil (w : World) : FreeA w (.slice none 0 0) := fun b o n c h => by cases h
theorem FreeA.calm {F : Nat → Nat → Prop} {w w' : World} {v : Value} (h : FreeA w v) (hc : Calm F w w') : FreeA w' v := fun b o n c hv => by
  obtain ⟨cur, hb⟩ := h b o n c hv
  exact ⟨cur, hc.same hb fun c fz e => by injection e with _ e; exact absurd e (by decide)⟩
theorem FreeA.grown {w w' : World} {v : Value} {row : Option Nat} (h : FreeA w v) (hg : w.grownBy w' row) (hr : ∀ g, row = some g → ∃ cur, w.heap[g]? = some (.cells cur 35 (0, 0))) : FreeA w' v := fun b o n c hv => by
  obtain ⟨cur, hb⟩ := h b o n c hv
  refine ⟨cur, (hg.block b (Array.getElem?_eq_some_iff.1 hb).1 fun e => ?_).trans hb⟩
  obtain ⟨c2, h2⟩ := hr b e.symm
  rw [hb] at h2
  injection h2 with h2
  injection h2 with _ h2
  exact absurd h2 (by decide)

set_option maxHeartbeats 1000000 in
set_option maxRecDepth 100000 in
theorem fresh_any (l : List (ByteArray × ByteArray)) (va : Value) (w : World) (hA : AttrsAt (· < w.heap.size) w l va) (hz : l.length ≤ 1000000000) :
    Calls Tryz.prog 188 #[va] w fun e w' => ∃ A c, e = .returned (.slice A l.length c) ∧ AttrsAt (fun b => w.heap.size ≤ b ∧ b < w'.heap.size) w' l (.slice A l.length c) ∧ FreeA w' (.slice A l.length c) ∧ Below w.heap.size w w' := by
  obtain ⟨A, c, rfl, hc, hx⟩ := hA
  have HRUN : ∃ A' c' w', (Builtin.append_ #[33, 33] 33 #[.slice none 0 0, .slice A l.length c]).run Tryz.prog w = .ok (.slice A' l.length c') w' ∧ AttrsAt (fun b => w.heap.size ≤ b ∧ b < w'.heap.size) w' l (.slice A' l.length c') ∧ FreeA w' (.slice A' l.length c') ∧ Below w.heap.size w w' := by
    rcases Nat.eq_zero_or_pos l.length with h0 | h0
    · obtain rfl : l = [] := List.eq_nil_of_length_eq_zero h0
      refine ⟨none, 0, w, ?_, AttrsAt.nil _ _, FreeA.nil _, Below.refl _ _⟩
      cases A with
      | none => kernel_rfl
      | some a => kernel_rfl
    · obtain ⟨i0, hi, hz0, hz1, hz2⟩ := info_parts info_attr
      obtain ⟨b, o, rfl, hb, hcell⟩ := hx (by rw [acells_length]; omega)
      obtain ⟨v', w', hrun, own', hgr, _⟩ := run_append_new (w := w) w.heap.size 33 33 39 i0 _ 2 32 Tryz.underlying33 hi hz0 hz1 hz2 rfl (by decide) (.slice none 0 0) 0 [] (World.ownsRow_nil _ _ _ _) ⟨b, o, none⟩ l.length c (acells l) (acells_length l) (fun j u hj => by
        rw [show (⟨b, o, none⟩ : Addr).add j = ⟨b, o + j, none⟩ by simp [Addr.add]]
        exact hcell j u hj) (fun u hu => by
        unfold acells at hu
        rw [List.mem_flatMap] at hu
        obtain ⟨a, _, hu⟩ := hu
        simp only [List.mem_cons, List.not_mem_nil, or_false] at hu
        rcases hu with rfl | rfl <;> rfl) (by unfold maxLen; omega) (by omega) (Nat.le_refl _)
      rw [Nat.zero_add, List.nil_append] at own'
      obtain ⟨A', c', rfl, hc'⟩ := own_size own'
      refine ⟨A', c', w', hrun, ⟨A', c', rfl, hc', (Cells.own own').mono fun b hb => own'.lt b hb⟩, fun b o n c hv => ?_, ⟨hgr.os, hgr.tape, hgr.output, hgr.size, fun k hk => hgr.block k hk (by simp [Value.ownBlock])⟩⟩
      injection hv with e1 e2 e3
      subst e1
      rcases own'.2 with ⟨h1, _⟩ | ⟨g, cap, cur, h1, _, h2, _⟩
      · cases h1
      · injection h1 with h1
        injection h1 with h1
        injection h1 with h1
        subst h1
        exact ⟨cur, h2⟩
  obtain ⟨A', c', w', hrun, hat, hfr, hb⟩ := HRUN
  have HE := Lib.hid (And.intro hat (And.intro hfr hb))
  clear hat hfr hb hx
  go_enter Tryz.func188, Tryz.ntmps188
  go_wp2_with (at_builtin; refine wpList_run_append2 rfl _ _ rfl _ _ _ rfl rfl hrun ?_)
  go_ret
  exact ⟨A', c', rfl, HE.out.1, HE.out.2.1, HE.out.2.2⟩

/-! ### nodes that are told -/
/-- A list of nodes of the call's own, whose attributes may be written. -/
def OwnF (w : World) (base : Nat) (P : Nat → Prop) (l : List Nd) (v : Value) : Prop :=
  ∃ R : List Rn, R.map Rn.n = l ∧ w.ownsRow base 35 5 v R.length (ncells R) ∧ (∀ r ∈ R, AttrsAt (SubK P w v) w r.n.attrs r.va) ∧ (∀ r ∈ R, Tree (SubK P w v) w r.n.kids r.vk) ∧ ∀ r ∈ R, FreeA w r.va
theorem OwnF.nil (w : World) (base : Nat) (P : Nat → Prop) : OwnF w base P [] (.slice none 0 0) := ⟨[], rfl, World.ownsRow_nil _ _ _ _, by simp, by simp, by simp⟩
theorem OwnF.ownK {w : World} {base : Nat} {P : Nat → Prop} {l : List Nd} {v : Value} (h : OwnF w base P l v) : OwnK w base P l v := by
  obtain ⟨R, h1, h2, h3, h4, _⟩ := h
  exact ⟨R, h1, h2, h3, h4, fun g hg hs => hs.2.2 hg⟩
theorem ownsRow_calm {F : Nat → Nat → Prop} {w w' : World} {base size n : Nat} {e : TypeId} {v : Value} {xs : List Value} (h : w.ownsRow base e size v n xs) (hc : Calm F w w') (he : e ≠ 5) : w'.ownsRow base e size v n xs := by
  refine ⟨h.1, ?_⟩
  rcases h.2 with h | ⟨g, cap, cur, hv, hg, hh, r⟩
  · exact .inl h
  · exact .inr ⟨g, cap, cur, hv, hg, hc.same hh fun c fz e' => by injection e' with _ e'; exact he e', r⟩
theorem OwnF.calm {F : Nat → Nat → Prop} {w w' : World} {base : Nat} {P : Nat → Prop} {l : List Nd} {v : Value} (h : OwnF w base P l v) (hc : Calm F w w') : OwnF w' base P l v := by
  obtain ⟨R, h1, h2, h3, h4, h5⟩ := h
  have kp : Kept (SubK P w v) w w' := hc.kept fun b hb => hb.2.1
  have hS : ∀ b, SubK P w v b → SubK P w' v b := fun b hb => ⟨hb.1, Nat.lt_of_lt_of_le hb.2.1 hc.size, hb.2.2⟩
  exact ⟨R, h1, ownsRow_calm h2 hc (by decide), fun r hr => ((h3 r hr).keep kp).mono hS, fun r hr => ((h4 r hr).keep kp).mono hS, fun r hr => (h5 r hr).calm hc⟩
theorem OwnF.lt {w : World} {base : Nat} {P : Nat → Prop} {l : List Nd} {v : Value} (h : OwnF w base P l v) : ∀ g, v.ownBlock = some g → base ≤ g ∧ g < w.heap.size := OwnT.lt h.ownK
theorem OwnF.row {w : World} {base : Nat} {P : Nat → Prop} {l : List Nd} {v : Value} (h : OwnF w base P l v) : ∀ g, v.ownBlock = some g → ∃ cur, w.heap[g]? = some (.cells cur 35 (0, 0)) := by
  obtain ⟨R, _, h2, _⟩ := h
  intro g hg
  rcases h2.2 with ⟨hv, _⟩ | ⟨g', cap, cur, hv, _, hh, _⟩
  · rw [hv] at hg; cases hg
  · rw [hv] at hg
    injection hg with hg
    subst hg
    exact ⟨cur, hh⟩

/-- One node more. -/
theorem wpList_append_nodeF {w : World} {ops : Array Oper} {rest : List Oper} {o : Oper} {a : Act} {Q : Exit → Act → World → Prop} (hgd : o.guard = none) (s x : Operand)
    (ho : o.op = .call { callee := .builtin .append, args := #[s, x], argTypes := #[22, 22] })
    (base : Nat) (P : Nat → Prop) (l : List Nd) (v : Value) (hs : a.eval s = v) (h : OwnF w base P l v) (r : Rn) (ad : Addr) (c : Nat) (hx : a.eval x = .slice (some ad) 1 c)
    (hnews : ∀ j u, (ncells1 r)[j]? = some u → w.cell? (ad.add j) = some u) (hat : AttrsAt (SubK P w v) w r.n.attrs r.va) (hk : Tree (SubK P w v) w r.n.kids r.vk) (hfr : FreeA w r.va)
    (hlen : l.length ≤ 1000000000) (hbase : base ≤ w.heap.size)
    (hK : ∀ v' w', OwnF w' base P (l ++ [r.n]) v' → w.grownBy w' v.ownBlock → wpList Tryz.prog ops Q rest (a.put o.dst v') w') :
    wpList Tryz.prog ops Q (o :: rest) a w := by
  have hrow := h.row
  obtain ⟨i0, hi, hz0, hz1, hz2⟩ := info_parts info_node
  obtain ⟨R, rfl, hown, hat0, hk0, hf0⟩ := h
  rw [List.length_map] at hlen
  obtain ⟨A1, c1, hva, _⟩ := id hat
  obtain ⟨A2, c2, hvk, _⟩ := hk.shape
  have h1 : ∀ u ∈ ncells1 r, u.oneCell' = true := by
    intro u hu
    simp only [ncells1, List.mem_cons, List.not_mem_nil, or_false] at hu
    rcases hu with rfl | rfl | rfl | rfl | rfl
    · rfl
    · rfl
    · rw [hva]; rfl
    · rfl
    · rw [hvk]; rfl
  obtain ⟨v', w', hrun, own', hgr, hnew⟩ := run_append_new (w := w) base 22 o.type 35 i0 _ 5 88 Tryz.underlying22 hi hz0 hz1 hz2 rfl (by decide) v R.length (ncells R) hown ad 1 c (ncells1 r) rfl hnews h1 (by unfold maxLen; omega) (by omega) hbase
  refine wpList_run_append2 hgd s x ho _ _ _ hs hx hrun ?_
  have hSS : ∀ b, SubK P w v b → SubK P w' v' b := by
    intro b hb
    refine ⟨hb.1, Nat.lt_of_lt_of_le hb.2.1 hgr.size, ?_⟩
    rcases hnew with e | e
    · rw [e]; exact hb.2.2
    · intro hg
      have := e b hg
      have := hb.2.1
      omega
  have kp : Kept (SubK P w v) w w' := Kept.grown hgr fun b hb => ⟨hb.2.1, fun e => hb.2.2 e.symm⟩
  refine hK v' w' ⟨R ++ [r], by simp, ?_, ?_, ?_, ?_⟩ hgr
  · rw [List.length_append, ncells_append]
    have : ncells [r] = ncells1 r := by simp [ncells]
    rw [this]
    exact own'
  · intro q hq
    rcases List.mem_append.1 hq with hq | hq
    · exact ((hat0 q hq).keep kp).mono hSS
    · simp at hq
      subst hq
      exact (AttrsAt.keep hat kp).mono hSS
  · intro q hq
    rcases List.mem_append.1 hq with hq | hq
    · exact ((hk0 q hq).keep kp).mono hSS
    · simp at hq
      subst hq
      exact (hk.keep kp).mono hSS
  · intro q hq
    rcases List.mem_append.1 hq with hq | hq
    · exact (hf0 q hq).grown hgr hrow
    · simp at hq
      subst hq
      exact hfr.grown hgr hrow

end Go.Proofs.YthmnnalamaponaaGreat
