/- Parts of the proof, in build order: Out BdA TbM BdB TreeK MathA. -/
import Derived.Test.YtfdgmoakobjohaaK02
import Derived.Lib.OthersKept
import Derived.Test.YtfdgmoakobjohaaK01
import Derived.Maps.OwnSet
import Derived.WalkKit
import Derived.Lib.Builder
import Derived.Lib.FrozenHead
import Derived.Lib.UnsafeStr
import Derived.Laws.Externs

/- Part Out. -/
namespace Go.Proofs.Ytfdgmoakobjohaa
open Go.RowKit
set_option linter.unusedVariables false

theorem dN_below {B : Nat} {a w : World} (h : Below B a w) (n : Nat) : Below B a (w.drewN n) := h.trans ⟨rfl, rfl, rfl, Nat.le_refl _, fun _ _ => rfl⟩

/-- Every block but b, and but rows of bytes, stands as it stood. -/
abbrev Oth (b : Nat) (W W' : World) : Prop := Lib.OthersKept 5 (some b) W W'
theorem Oth.box {b k : Nat} {W W' : World} {cs : Array Value} {t : TypeId} (h : Oth b W W') (hk : W.heap[k]? = some (.cells cs t (0, 0))) (hb : k ≠ b) (ht : t ≠ 5) : W'.heap[k]? = some (.cells cs t (0, 0)) :=
  h k _ hk (fun e => hb (Option.some.inj e)) (fun c fz e => ht (by injection e))
theorem Oth.below {b : Nat} {W W' : World} (h : Below W.heap.size W W') : Oth b W W' := fun k o hk _ _ => by
  have hlt : k < W.heap.size := (Array.getElem?_eq_some_iff.1 hk).1
  exact (h.block k hlt).trans hk
theorem cell_at {W : World} {k : Nat} {cs : Array Value} {t : TypeId} (h : W.heap[k]? = some (.cells cs t (0, 0))) (j : Nat) : W.cell? ⟨k, j, none⟩ = cs[j]? := by simp [World.cell?, h]
theorem froz_at {W : World} {k : Nat} {cs : Array Value} {t : TypeId} (h : W.heap[k]? = some (.cells cs t (0, 0))) (j : Nat) : W.frozen? ⟨k, j, none⟩ = false := by simp [World.frozen?, h]
theorem box_here (W : World) (cs : Array Value) (t : TypeId) : (W.alloc (.cells cs t)).heap[W.heap.size]? = some (.cells cs t (0, 0)) := heap_alloc_new W _

/-- The function g, over the variable b that it has taken along, is told pieces: Inv says what it has been told; it changes nothing but its own. -/
structure Out (n0 : Nat) (w0 : World) (g : FuncId) (b M : Nat) (Inv : List UInt8 → World → Prop) : Prop where
  ent : ∀ args w, (callFunc g args).run Try.prog w = .ok (.enter g args) w
  call : ∀ (acc : List UInt8) (s : ByteArray) (W : World), Inv acc W → acc.length + s.data.toList.length ≤ M →
    Calls Try.prog g #[.string s, .pointer (some ⟨b, 0, none⟩)] W fun e W' => e = .returned (.tuple #[]) ∧ Inv (acc ++ s.data.toList) W' ∧ Oth b W W'
  bel : ∀ acc W, Inv acc W → Below n0 w0 W
  new : ∀ acc W W', Inv acc W → Below W.heap.size W W' → Inv acc W'
  lt : ∀ acc W, Inv acc W → b < W.heap.size

/-- What a call that tells pieces hands back. -/
def Told (Inv : List UInt8 → World → Prop) (b : Nat) (W : World) (acc : List UInt8) (e : Ending) (W' : World) : Prop :=
  e = .returned (.tuple #[]) ∧ Inv acc W' ∧ Oth b W W'

end Go.Proofs.Ytfdgmoakobjohaa

/- Part BdA. -/
namespace Go.Proofs.Ytfdgmoakobjohaa
open Go.RowKit Go.Maps
set_option linter.unusedVariables false

theorem turned_grown {w w' : World} {b : Nat} (h : w.mapTurned w' b) : w.grownBy w' (some b) := by
  obtain ⟨es, clock, es', clock', hb, rfl⟩ := h
  exact ⟨rfl, rfl, rfl, by simp [Go.ChangeMaps.setBlock], fun i _ hi => Go.ChangeMaps.heap_setBlock_other hb _ (fun e => hi (by rw [e]))⟩

/-! ### how many -/
theorem zero64 (w : World) : (zeroValue 3).run Try.prog w = .ok (.int .i64 0) w := by kernel_rfl
/-- What a datum says of texts: a number each, 0 where there is none. -/
def CView (D : DataW Unit) (f : List UInt8 → Nat) : Prop := IsMap D ∧ ∀ l, D.atKey (.string l) (.lit (.int .i64 0)) = .lit (.int .i64 (f l))
theorem CView.empty : CView (.map []) (fun _ => 0) := ⟨isMap_empty, fun l => rfl⟩
def updN (f : List UInt8 → Nat) (k : List UInt8) (v : Nat) : List UInt8 → Nat := fun l => if l = k then v else f l
theorem CView.put {D : DataW Unit} {f : List UInt8 → Nat} (h : CView D f) (k : List UInt8) (v : Nat) : CView (D.put (.string k) (.lit (.int .i64 v))) (updN f k v) := by
  refine ⟨h.1.put _ _, fun l => ?_⟩
  unfold updN
  by_cases e : l = k
  · subst e
    rw [if_pos rfl]
    exact atKey_put_same h.1 (show WideAt.IsKeyLit (.string l) from trivial) _ _
  · rw [if_neg e]
    have hne : (Lit.string l) ≠ .string k := by intro h; injection h; exact e ‹_›
    rw [atKey_put_other hne]
    exact h.2 l
theorem CView.del {D : DataW Unit} {f : List UInt8 → Nat} (h : CView D f) (k : List UInt8) (h0 : f k = 0) : CView (D.del (.string k)) f := by
  refine ⟨h.1.del _, fun l => ?_⟩
  by_cases e : l = k
  · subst e
    rw [atKey_del_same, h0]
    rfl
  · have hne : (Lit.string l) ≠ .string k := by intro h; injection h; exact e ‹_›
    rw [atKey_del_other hne]
    exact h.2 l

/-- Block b tells how many there are of each text. -/
def CntAt (w : World) (b n : Nat) (f : List UInt8 → Nat) : Prop := ∃ D : DataW Unit, w.ownsMap Try.prog 9 (plainElem Try.prog 3) b n D ∧ CView D f
theorem CntAt.lt {w : World} {b n : Nat} {f : List UInt8 → Nat} (h : CntAt w b n f) : b < w.heap.size := by
  obtain ⟨D, h, _⟩ := h
  exact h.lt
theorem CntAt.heap {w : World} {b n : Nat} {f : List UInt8 → Nat} (h : CntAt w b n f) : ∃ es ck, w.heap[b]? = some (.map es ck) := by
  obtain ⟨D, ⟨es, clock, hh, _⟩, _⟩ := h
  exact ⟨es, clock, hh⟩
theorem CntAt.kept {w w' : World} {b n : Nat} {f : List UInt8 → Nat} (h : CntAt w b n f) (hb : w'.heap[b]? = w.heap[b]?) : CntAt w' b n f := by
  obtain ⟨D, ⟨es, clock, hh, F, hs, hD⟩, hv⟩ := h
  exact ⟨D, ⟨es, clock, hb.trans hh, F, hs, hD⟩, hv⟩
theorem CntAt.made (w : World) : CntAt (w.alloc (.map #[] 0)) w.heap.size 0 (fun _ => 0) := ⟨_, World.ownsMap_made _ _ _ _, CView.empty⟩
theorem CntAt.congr {w : World} {b n : Nat} {f g : List UInt8 → Nat} (h : CntAt w b n f) (e : ∀ l, f l = g l) : CntAt w b n g := by
  have : f = g := funext e
  subst this
  exact h
theorem wf64 (v : Nat) (hv : v ≤ 2000000) : (Lit.int .i64 (v : Int)).wf = true := by
  have h1 : IntKind.i64.min = -9223372036854775808 := by decide
  have h2 : IntKind.i64.max = 9223372036854775807 := by decide
  show (decide (IntKind.i64.min ≤ (v : Int)) && decide ((v : Int) ≤ IntKind.i64.max)) = true
  rw [h1, h2, Bool.and_eq_true, decide_eq_true_eq, decide_eq_true_eq]
  omega

/-- 'named[k]'. -/
theorem CntAt.look {w : World} {b n : Nat} {f : List UInt8 → Nat} (h : CntAt w b n f) (k : ByteArray) (hk : k.size ≤ maxLen) :
    (Instr.lookup 47 (.map (some b)) (.string k) false).run Try.prog w = .ok (.int .i64 (f k.data.toList)) w := by
  obtain ⟨D, hown, hv⟩ := h
  obtain ⟨c, hrun, hat, _⟩ := hown.lookup_int strKeyed Try.underlying47 Try.underlying3 (zero64 w) (Go.WideMaps.keyOf_string_mk Try.underlying9 hk)
  rw [hv.2] at hat
  injection hat with hat
  injection hat with _ hat
  rw [hrun, hat]
/-- 'named[k] = v'. -/
theorem CntAt.store {w : World} {b n : Nat} {f : List UInt8 → Nat} (h : CntAt w b n f) (hn : n ≤ 2000000) (k : ByteArray) (hk : k.size ≤ maxLen) (v : Nat) (hv : v ≤ 2000000) (x : Int) (hx : x = (v : Int)) :
    ∃ w', (Instr.mapUpdate 47 (.map (some b)) (.string k) (.int .i64 x)).run Try.prog w = .ok () w' ∧ CntAt w' b (n + 1) (updN f k.data.toList v) ∧ w.grownBy w' (some b) := by
  subst hx
  obtain ⟨D, hown, hvw⟩ := h
  obtain ⟨w', hrun, r1, r2⟩ := hown.update strKeyed Try.underlying47 (by unfold maxLen; omega) (Go.WideMaps.keyOf_string_mk Try.underlying9 hk) (plainElem_int Try.underlying3 (wf64 v hv))
  exact ⟨w', hrun, ⟨_, r1, hvw.put _ _⟩, r2⟩
/-- 'delete(named, k)', where none is. -/
theorem CntAt.drop {w : World} {b n : Nat} {f : List UInt8 → Nat} (h : CntAt w b n f) (k : ByteArray) (hk : k.size ≤ maxLen) (h0 : f k.data.toList = 0) (ty : TypeId) :
    ∃ w', (Builtin.delete_ #[47, 9] ty #[.map (some b), .string k]).run Try.prog w = .ok (.tuple #[]) w' ∧ CntAt w' b n f ∧ w.grownBy w' (some b) := by
  obtain ⟨D, hown, hvw⟩ := h
  obtain ⟨w', hrun, r1, r2⟩ := hown.drop strKeyed Try.underlying47 (Go.WideMaps.keyOf_string_mk Try.underlying9 hk) ty
  exact ⟨w', hrun, ⟨_, r1, hvw.del _ h0⟩, turned_grown r2⟩

/-! ### what is done -/
def fnV : Option Nat → Value
  | none => .nilFunc
  | some f => .func (.func f) #[] #[]
def fnElem : Value → Option (DataW Unit × List MemPlace)
  | .func (.func f) a b => if a = #[] ∧ b = #[] then some (.lit (.int .i64 f), []) else none
  | .nilFunc => some (.nil, [])
  | _ => none
def fnD : Option Nat → DataW Unit
  | none => .nil
  | some f => .lit (.int .i64 f)
theorem fnElem_mk (x : Option Nat) : fnElem (fnV x) = some (fnD x, []) := by cases x <;> simp [fnElem, fnV, fnD]
theorem fnElem_inv {v : Value} {x : Option Nat} {ps : List MemPlace} (h : fnElem v = some (fnD x, ps)) : v = fnV x := by
  unfold fnElem at h
  split at h
  · rename_i f a b
    split at h
    · rename_i hab
      obtain ⟨rfl, rfl⟩ := hab
      cases x with
      | none => simp [fnD] at h
      | some g =>
        injection h with h
        injection h with h1 h2
        injection h1 with h1
        injection h1 with _ h1
        have h3 : f = g := Int.ofNat.inj h1
        rw [h3]
        rfl
    · cases h
  · cases x with
    | none => rfl
    | some g => simp [fnD] at h
  · cases h
def DView (D : DataW Unit) (f : Int → Option Nat) : Prop :=
  IsMap D ∧ ∀ i, Maps.has D (.int .i64 i) = (f i).isSome ∧ ∀ z, D.atKey (.int .i64 i) z = if (f i).isSome = true then fnD (f i) else z
theorem DView.empty : DView (.map []) (fun _ => none) := ⟨isMap_empty, fun l => ⟨rfl, fun z => rfl⟩⟩
def updI (f : Int → Option Nat) (k : Int) (v : Nat) : Int → Option Nat := fun l => if l = k then some v else f l
theorem DView.put {D : DataW Unit} {f : Int → Option Nat} (h : DView D f) (k : Int) (v : Nat) : DView (D.put (.int .i64 k) (fnD (some v))) (updI f k v) := by
  refine ⟨h.1.put _ _, fun l => ?_⟩
  unfold updI
  by_cases e : l = k
  · subst e
    rw [if_pos rfl]
    exact ⟨has_put_same h.1 (show WideAt.IsKeyLit (.int .i64 l) from trivial) _, fun z => atKey_put_same h.1 (show WideAt.IsKeyLit (.int .i64 l) from trivial) _ z⟩
  · rw [if_neg e]
    have hne : (Lit.int .i64 l) ≠ .int .i64 k := by intro h; injection h; exact e ‹_›
    refine ⟨?_, fun z => ?_⟩
    · rw [has_put_other hne]; exact (h.2 l).1
    · rw [atKey_put_other hne]; exact (h.2 l).2 z
/-- Block b tells what is done of each kind. -/
def DeedAt (w : World) (b n : Nat) (f : Int → Option Nat) : Prop := ∃ D : DataW Unit, w.ownsMap Try.prog 3 fnElem b n D ∧ DView D f
theorem DeedAt.lt {w : World} {b n : Nat} {f : Int → Option Nat} (h : DeedAt w b n f) : b < w.heap.size := by
  obtain ⟨D, h, _⟩ := h
  exact h.lt
theorem DeedAt.kept {w w' : World} {b n : Nat} {f : Int → Option Nat} (h : DeedAt w b n f) (hb : w'.heap[b]? = w.heap[b]?) : DeedAt w' b n f := by
  obtain ⟨D, ⟨es, clock, hh, F, hs, hD⟩, hv⟩ := h
  exact ⟨D, ⟨es, clock, hb.trans hh, F, hs, hD⟩, hv⟩
theorem DeedAt.made (w : World) : DeedAt (w.alloc (.map #[] 0)) w.heap.size 0 (fun _ => none) := ⟨_, World.ownsMap_made _ _ _ _, DView.empty⟩
theorem intKeyed : Keyed Try.prog 3 := int_keyed Try.underlying3
theorem keyOf_int {i : Int} (h : (Lit.int .i64 i).wf = true) : keyOf Try.prog 3 (.int .i64 i) = some (.int .i64 i) := by
  have hu : Try.prog.underlying 3 = some (.int .i64) := Try.underlying3
  simp [keyOf, mapKey, hu, h]
theorem DeedAt.insert {w : World} {b n : Nat} {f : Int → Option Nat} (h : DeedAt w b n f) (hn : n ≤ 100) (k : Int) (hk : (Lit.int .i64 k).wf = true) (v : Nat) :
    ∃ w', (Instr.mapUpdate 59 (.map (some b)) (.int .i64 k) (.func (.func v) #[] #[])).run Try.prog w = .ok () w' ∧ DeedAt w' b (n + 1) (updI f k v) ∧ w.grownBy w' (some b) := by
  obtain ⟨D, hown, hvw⟩ := h
  obtain ⟨w', hrun, r1, r2⟩ := hown.update intKeyed Try.underlying59 (by unfold maxLen; omega) (keyOf_int hk) (fnElem_mk (some v))
  exact ⟨w', hrun, ⟨_, r1, hvw.put _ _⟩, r2⟩
theorem zeroFn (w : World) : (zeroValue 57).run Try.prog w = .ok .nilFunc w := by kernel_rfl
theorem if_iff_fn (x : Option Nat) : (if x.isSome = true then fnD x else fnD none) = fnD x := by cases x <;> rfl
/-- 'do, ok := deeds[k]'. -/
theorem DeedAt.look {w : World} {b n : Nat} {f : Int → Option Nat} (h : DeedAt w b n f) (k : Int) (hk : (Lit.int .i64 k).wf = true) :
    (Instr.lookup 59 (.map (some b)) (.int .i64 k) true).run Try.prog w = .ok (.tuple #[fnV (f k), .bool (f k).isSome]) w := by
  obtain ⟨D, hown, hv⟩ := h
  obtain ⟨v, ps, hrun, hv2⟩ := hown.look_ok intKeyed Try.underlying59 (zeroFn w) (fnElem_mk none) (keyOf_int hk)
  rw [(hv.2 k).2, (if_iff_fn (f k))] at hv2
  rw [hrun, (hv.2 k).1, fnElem_inv hv2]

/-- What is done of each kind. -/
def dG : Int → Option Nat := updI (updI (updI (updI (fun _ => none) 1 25) 2 26) 3 27) 4 28

set_option maxHeartbeats 4000000 in
set_option maxRecDepth 100000 in
theorem deeds_any (w : World) : Calls Try.prog 21 #[] w fun e w' => ∃ b, e = .returned (.map (some b)) ∧ DeedAt w' b 4 dG ∧ Below w.heap.size w w' := by
  have hmm := @run_makeMap Try.prog
  have h0 := DeedAt.made w
  have b0 : Below w.heap.size w (w.alloc (.map #[] 0)) := below_new w _
  obtain ⟨w1, e1, h1, r1⟩ := h0.insert (by omega) 1 (by decide) 25
  have b1 : Below w.heap.size w w1 := b0.grown r1 b0.size (fun g hg => by injection hg with hg; omega)
  clear r1
  obtain ⟨w2, e2, h2, r2⟩ := h1.insert (by omega) 2 (by decide) 26
  have b2 : Below w.heap.size w w2 := b1.grown r2 b1.size (fun g hg => by injection hg with hg; omega)
  clear r2
  obtain ⟨w3, e3, h3, r3⟩ := h2.insert (by omega) 3 (by decide) 27
  have b3 : Below w.heap.size w w3 := b2.grown r3 b2.size (fun g hg => by injection hg with hg; omega)
  clear r3
  obtain ⟨w4, e4, h4, r4⟩ := h3.insert (by omega) 4 (by decide) 28
  have b4 : Below w.heap.size w w4 := b3.grown r4 b3.size (fun g hg => by injection hg with hg; omega)
  clear r4
  have H4 := Lib.hid (And.intro h4 b4)
  clear h0 h1 h2 h3 h4 b0 b1 b2 b3 b4
  go_enter Try.func21, Try.ntmps21
  go_wp2_with fail
  go_ret
  exact ⟨_, rfl, H4.out.1, H4.out.2⟩

end Go.Proofs.Ytfdgmoakobjohaa

/- Part TbM. -/
namespace Go.Proofs.Ytfdgmoakobjohaa

/-- Bytes as a text. -/
def tB (l : List UInt8) : ByteArray := ⟨l.toArray⟩
theorem tB_list (l : List UInt8) : (tB l).data.toList = l := by simp [tB]
theorem tB_of (s : ByteArray) : tB s.data.toList = s := by
  apply ByteArray.ext
  simp [tB]
theorem tB_eq {s : ByteArray} {l : List UInt8} (h : s.data.toList = l) : s = tB l := by rw [← h, tB_of]
theorem tB_inj {a b : List UInt8} (h : tB a = tB b) : a = b := by
  have := congrArg (fun s : ByteArray => s.data.toList) h
  simpa [tB] using this
theorem bytes_inj {a b : ByteArray} (h : a.data.toList = b.data.toList) : a = b := by rw [tB_eq h, tB_of]
theorem tB_app (a b : List UInt8) : tB (a ++ b) = tB a ++ tB b := by
  apply ByteArray.ext
  simp [tB, ByteArray.data_append]
theorem tB_size (l : List UInt8) : (tB l).size = l.length := by simp [tB, ByteArray.size]

end Go.Proofs.Ytfdgmoakobjohaa

/- Part BdB. -/
namespace Go.Proofs.Ytfdgmoakobjohaa
open Go.RowKit
set_option linter.unusedVariables false

theorem size_bld : (Try.prog.info? 51).map (·.size) = some 2 := by kernel_rfl
theorem lies_bld : liesAt Try.prog Try.prog.depth 54 (7 / Try.prog.cellsOf 54) 4 51 1 = true := by kernel_rfl
theorem info_u8b : (Try.prog.info? 5).map (fun i => (i.zero, i.size, i.bytes)) = some (some (.int .u8 0), 1, 1) := by kernel_rfl
theorem cells_u8 : Try.prog.cellsOf 5 = 1 := by kernel_rfl

set_option maxHeartbeats 1000000 in
set_option maxRecDepth 100000 in
theorem check7_fresh (g : Nat) (k nm va tx bv vk : Value) (w : World) (hb : w.heap[g]? = some (.cells #[k, nm, va, tx, .pointer none, bv, vk] 54 (0, 0))) :
    Calls Try.prog 44 #[.pointer (some ⟨g, 4, none⟩)] w fun e w' => e = .returned (.tuple #[]) ∧ w' = w.setCell ⟨g, 4, none⟩ (.pointer (some ⟨g, 4, none⟩)) := by
  obtain ⟨j, hj, hjs⟩ := Option.map_eq_some_iff.1 size_bld
  have h0 : w.cell? ⟨g, 4, none⟩ = some (.pointer none) := cell_at hb 4
  have hsh : w.shape? g = some (54, 7) := by simp [World.shape?, hb]
  have hfz : w.frozen? ⟨g, 4, none⟩ = false := Lib.frozen_of_heap hb 4
  clear hb
  go_enter Try.func44, Try.ntmps44
  go_wp2
  rw [Lib.run_to_unsafe w ⟨g, 4, none⟩ Try.underlying48 Try.underlying87 hj (by rw [hjs]; decide) hsh (show 4 < 7 by omega)]
  simp only [Result.andThen]
  rw [Oper.upon_value]
  go_wp2
  rw [run_callFunc_extern Try.func46 (by kernel_rfl) (by kernel_rfl) (by kernel_rfl) (e := Extern.AbiNoEscape.same) (by kernel_rfl)]
  rw [Lib.run_noEscape]
  simp only [Result.andThen]
  rw [Oper.upon_value]
  go_wp2
  rw [Lib.run_from_unsafe w ⟨g, 4, none⟩ Try.underlying87 Try.underlying48 hj hsh lies_bld]
  simp only [Result.andThen]
  rw [Oper.upon_value]
  go_wp2
  go_end0
  exact ⟨rfl, rfl⟩

set_option maxHeartbeats 1000000 in
set_option maxRecDepth 100000 in
theorem check7_used (g : Nat) (w : World) (h0 : w.cell? ⟨g, 4, none⟩ = some (.pointer (some ⟨g, 4, none⟩))) :
    Calls Try.prog 44 #[.pointer (some ⟨g, 4, none⟩)] w fun e w' => e = .returned (.tuple #[]) ∧ w' = w := by
  go_enter Try.func44, Try.ntmps44
  obtain ⟨j, hj, hjs⟩ := Option.map_eq_some_iff.1 size_bld
  go_wp2
  rw [Lib.run_neq_ptr_same w _ Try.underlying48 hj]
  go_wp2
  go_end0
  exact ⟨rfl, rfl⟩

/-- A row of bytes, one text longer; and where the new row lies. -/
theorem run_append_str_new {w : World} (base : Nat) (ty : TypeId) (v : Value) (n : Nat) (xs : List Value) (hown : w.ownsRowF base 5 1 v n xs) (s : ByteArray) (hbytes : n + s.size ≤ 1000000) (hbase : base ≤ w.heap.size) :
    ∃ v' w', (Builtin.append_ #[49, 9] ty #[v, .string s]).run Try.prog w = .ok v' w' ∧ w'.ownsRowF base 5 1 v' (n + s.size) (xs ++ Lib.strCells s) ∧ w.grownBy w' v.ownBlock ∧ (v'.ownBlock = v.ownBlock ∨ ∀ g, v'.ownBlock = some g → w.heap.size ≤ g) := by
  obtain ⟨i0, hi, hz0, hz1, hz2⟩ := info_parts info_u8b
  obtain ⟨v', w', hrun, ho, hg, _⟩ := Lib.run_append_own_stringF (P := Try.prog) w base 49 9 ty 5 i0 Try.underlying49 Try.underlying9 hi hz0 hz1 hz2 v n xs hown s (by unfold maxLen; omega) (by omega) hbase
  refine ⟨v', w', hrun, ho, hg, ?_⟩
  rcases hown.2 with ⟨rfl, rfl⟩ | ⟨g, cap, cur, fz, rfl, hbg, hgh, hfz, hnc, hcm, hcs, htake⟩
  · have hxs : xs = [] := by have := hown.1; simp at this; exact this
    subst hxs
    obtain ⟨v2, w2, hrun2, ho2, _⟩ := Lib.run_append_own_stringF (P := Try.prog) w w.heap.size 49 9 ty 5 i0 Try.underlying49 Try.underlying9 hi hz0 hz1 hz2 (.slice none 0 0) 0 [] ⟨rfl, .inl ⟨rfl, rfl⟩⟩ s (by unfold maxLen; omega) (by omega) (Nat.le_refl _)
    rw [hrun] at hrun2
    injection hrun2 with e1 e2
    subst e1
    subst e2
    exact .inr fun g hg => (ho2.lt g hg).1
  · by_cases hfit : n + s.size ≤ cap
    · have hr := Lib.run_append_room_stringF (P := Try.prog) w 49 9 ty 5 i0 Try.underlying49 Try.underlying9 hi hz1 g n cap cur fz hgh (by omega) s hfit (by omega)
      rw [hrun] at hr
      injection hr with e1 e2
      subst e1
      exact .inl rfl
    · have hxl : xs.length = n := by simpa using hown.1
      have hr := Lib.run_append_grow_string (P := Try.prog) w 49 9 ty 5 i0 (.int .u8 0) Try.underlying49 Try.underlying9 hi hz0 ⟨g, 0, none⟩ n cap xs (by rw [hz1]; omega) (hown.cells (g := g) rfl) s (by omega) (by omega) (by rw [hz2]; exact growslice_fits (by omega) (by omega))
      rw [hrun] at hr
      injection hr with e1 e2
      subst e1
      exact .inr fun g' hg' => by
        have : w.heap.size = g' := by simpa [Value.ownBlock] using hg'
        omega

/-- An append whose run is known. -/
theorem wpList_run_append2 {w w' : World} {ops : Array Oper} {rest : List Oper} {o : Oper} {a : Act} {Q : Exit → Act → World → Prop} {t u : TypeId} (hgd : o.guard = none) (s x : Operand)
    (ho : o.op = .call { callee := .builtin .append, args := #[s, x], argTypes := #[t, u] }) (v1 v2 v : Value) (hs : a.eval s = v1) (hx : a.eval x = v2) (hrun : (Builtin.append_ #[t, u] o.type #[v1, v2]).run Try.prog w = .ok v w')
    (hK : wpList Try.prog ops Q rest (a.put o.dst v) w') : wpList Try.prog ops Q (o :: rest) a w := by
  refine wpList_plain hgd fun K' hK' => ?_
  unfold Oper.wp
  simp [execOp, ho, resolve, invoke, builtin, hs, hx, hrun, Result.andThen]
  exact hK' _ _ hK

/-- What a call that writes a text behind a node's own does. -/
structure Wrote (lo g : Nat) (k nm va tx bv vk : Value) (m : List Value) (s : ByteArray) (w w' : World) : Prop where
  blk : ∃ bv', w'.heap[g]? = some (.cells #[k, nm, va, tx, .pointer (some ⟨g, 4, none⟩), bv', vk] 54 (0, 0)) ∧ w'.ownsRowF lo 5 1 bv' (m.length + s.size) (m ++ Lib.strCells s) ∧ (bv'.ownBlock = bv.ownBlock ∨ ∀ b, bv'.ownBlock = some b → w.heap.size ≤ b)
  os : w'.os = w.os
  tape : w'.tape = w.tape
  output : w'.output = w.output
  size : w.heap.size ≤ w'.heap.size
  kept : ∀ b, b < w.heap.size → b ≠ g → bv.ownBlock ≠ some b → w'.heap[b]? = w.heap[b]?

set_option maxHeartbeats 2000000 in
set_option maxRecDepth 100000 in
theorem write7_any (lo g : Nat) (k nm va tx bp bv vk : Value) (m : List Value) (s : ByteArray) (w : World) (hb : w.heap[g]? = some (.cells #[k, nm, va, tx, bp, bv, vk] 54 (0, 0)))
    (hbp : bp = .pointer none ∨ bp = .pointer (some ⟨g, 4, none⟩)) (hown : w.ownsRowF lo 5 1 bv m.length m) (hz : m.length + s.size ≤ 1000000) (hlo : lo ≤ w.heap.size) :
    Calls Try.prog 40 #[.pointer (some ⟨g, 4, none⟩), .string s] w fun e w' => (∃ x, e = .returned x) ∧ Wrote lo g k nm va tx bv vk m s w w' := by
  have hgl : g < w.heap.size := (Array.getElem?_eq_some_iff.1 hb).1
  have hne : bv.ownBlock ≠ some g := Lib.ownBlock_neF hown hb (by decide)
  have HCC : Calls Try.prog 44 #[.pointer (some ⟨g, 4, none⟩)] w fun e w' => e = .returned (.tuple #[]) ∧ w'.heap[g]? = some (.cells #[k, nm, va, tx, .pointer (some ⟨g, 4, none⟩), bv, vk] 54 (0, 0)) ∧ w.grownBy w' (some g) ∧ w'.heap.size = w.heap.size := by
    rcases hbp with rfl | rfl
    · refine (check7_fresh g k nm va tx bv vk w hb).mono ?_
      rintro e w' ⟨rfl, rfl⟩
      refine ⟨rfl, ?_, ⟨rfl, rfl, rfl, by simp, fun i _ hi => heap_setCell_other _ _ _ _ (fun e => hi (by rw [e]))⟩, by simp⟩
      have := heap_setCell_same w g 4 _ _ (.pointer (some ⟨g, 4, none⟩)) hb
      simpa using this
    · refine (check7_used g w (cell_at hb 4)).mono ?_
      rintro e w' ⟨rfl, rfl⟩
      exact ⟨rfl, hb, ⟨rfl, rfl, rfl, Nat.le_refl _, fun i _ _ => rfl⟩, rfl⟩
  have HC := Lib.hid HCC
  have HO := Lib.hid hown
  have HN := Lib.hid (And.intro hgl hne)
  clear HCC hown hne hgl hb hbp
  go_enter Try.func40, Try.ntmps40
  go_wp2_with fail
  refine HC.out.mono ?_
  rintro e w1 ⟨rfl, hb1, hg1, hs1⟩
  obtain ⟨hgl, hne⟩ := HN.out
  have ho1 : w1.ownsRowF lo 5 1 bv m.length m := HO.out.kept hg1 (.inr hne)
  obtain ⟨v', w2, hrun, ho2, hg2, hnew⟩ := run_append_str_new (w := w1) lo 49 bv m.length m ho1 s hz (by omega)
  have hb2 : w2.heap[g]? = some (.cells #[k, nm, va, tx, .pointer (some ⟨g, 4, none⟩), bv, vk] 54 (0, 0)) := (hg2.block g (by omega) (fun e => hne e.symm)).trans hb1
  obtain ⟨ao, c, rfl⟩ : ∃ ao c, v' = .slice ao (m.length + s.size) c := by
    rcases ho2.2 with ⟨hv, h0⟩ | ⟨g', cap, cur, fz, hv, _⟩
    · exact ⟨_, _, by rw [h0]; exact hv⟩
    · exact ⟨_, _, hv⟩
  have c1 : w1.cell? ⟨g, 5, none⟩ = some bv := cell_at hb1 5
  have d1 : w2.cell? ⟨g, 5, none⟩ = some bv := cell_at hb2 5
  have f1 : w2.frozen? ⟨g, 5, none⟩ = false := Lib.frozen_of_heap hb2 5
  have hne2 : (Value.slice ao (m.length + s.size) c).ownBlock ≠ some g := Lib.ownBlock_neF ho2 hb2 (by decide)
  have hg3 : w2.grownBy (w2.setCell ⟨g, 5, none⟩ (.slice ao (m.length + s.size) c)) (some g) := ⟨rfl, rfl, rfl, by simp, fun i _ hi => heap_setCell_other _ _ _ _ (fun e => hi (by rw [e]))⟩
  have HE := Lib.hid (show Wrote lo g k nm va tx bv vk m s w (w2.setCell ⟨g, 5, none⟩ (.slice ao (m.length + s.size) c)) from by
    refine ⟨⟨_, by have := heap_setCell_same w2 g 5 _ _ (.slice ao (m.length + s.size) c) hb2; simpa using this, ho2.kept hg3 (.inr hne2), ?_⟩, ?_, ?_, ?_, ?_, ?_⟩
    · rcases hnew with h | h
      · exact .inl h
      · exact .inr fun b hb => by have := h b hb; omega
    · exact hg3.os.trans (hg2.os.trans hg1.os)
    · exact hg3.tape.trans (hg2.tape.trans hg1.tape)
    · exact hg3.output.trans (hg2.output.trans hg1.output)
    · have h2 := hg2.size; have h3 := hg3.size; omega
    · intro b hb hbg hbv
      have h2 := hg2.size
      exact (hg3.block b (by omega) (fun e => hbg (by injection e))).trans ((hg2.block b (by omega) (fun e => hbv e.symm)).trans (hg1.block b hb (fun e => hbg (by injection e)))))
  clear ho1 ho2 hb1 hb2 hg1 hg2 hg3 hnew hne2
  go_wp2_with (at_builtin; refine wpList_run_append2 rfl _ _ rfl _ _ _ rfl rfl hrun ?_)
  go_ret2
  exact ⟨⟨_, rfl⟩, HE.out⟩

/-! ### String -/
/-- What a row of bytes holds, that may be read: nothing, or a row's head. -/
def BufAt (w : World) (bv : Value) (l : List UInt8) : Prop :=
  (bv = .slice none 0 0 ∧ l = []) ∨ (l ≠ [] ∧ ∃ g cap cur fz, bv = .slice (some ⟨g, 0, none⟩) l.length cap ∧ w.heap[g]? = some (.cells cur 5 fz) ∧ l.length ≤ cap ∧ cap ≤ maxLen ∧ cur.size = cap ∧ cur.toList.take l.length = Lib.byteCells l)

/-- Two worlds hold the same, but for rows of bytes that may not be written any more: those that F tells, no farther than it tells. -/
structure Calm (F : Nat → Nat → Prop) (w w' : World) : Prop where
  os : w'.os = w.os
  tape : w'.tape = w.tape
  output : w'.output = w.output
  size : w.heap.size ≤ w'.heap.size
  blk : ∀ k, k < w.heap.size → w'.heap[k]? = w.heap[k]? ∨ ∃ cur fz fz' m, w.heap[k]? = some (.cells cur 5 fz) ∧ w'.heap[k]? = some (.cells cur 5 fz') ∧ F k m ∧ (fz'.2 ≤ fz.2 ∨ fz'.2 ≤ m)
theorem Calm.below {F : Nat → Nat → Prop} {w w' : World} (h : Below w.heap.size w w') : Calm F w w' := ⟨h.os, h.tape, h.output, h.size, fun k hk => .inl (h.block k hk)⟩
theorem Calm.refl (F : Nat → Nat → Prop) (w : World) : Calm F w w := Calm.below (Below.refl _ _)
theorem Calm.trans {F : Nat → Nat → Prop} {w w' w'' : World} (h : Calm F w w') (h' : Calm F w' w'') : Calm F w w'' := by
  refine ⟨h'.os.trans h.os, h'.tape.trans h.tape, h'.output.trans h.output, Nat.le_trans h.size h'.size, fun k hk => ?_⟩
  rcases h.blk k hk with e | ⟨cur, fz, fz', m, e1, e2, e3, e4⟩
  · rcases h'.blk k (Nat.lt_of_lt_of_le hk h.size) with e' | ⟨cur, fz, fz', m, e1, e2, e3, e4⟩
    · exact .inl (e'.trans e)
    · exact .inr ⟨cur, fz, fz', m, e.symm.trans e1, e2, e3, e4⟩
  · rcases h'.blk k (Nat.lt_of_lt_of_le hk h.size) with e' | ⟨cur2, fz2, fz2', m2, d1, d2, d3, d4⟩
    · exact .inr ⟨cur, fz, fz', m, e1, e'.trans e2, e3, e4⟩
    · rw [e2] at d1
      injection d1 with d1
      injection d1 with d1a d1b d1c
      subst d1a
      subst d1c
      rcases d4 with d4 | d4
      · refine .inr ⟨cur, fz, fz2', m, e1, d2, e3, ?_⟩
        rcases e4 with e4 | e4
        · exact .inl (Nat.le_trans d4 e4)
        · exact .inr (Nat.le_trans d4 e4)
      · exact .inr ⟨cur, fz, fz2', m2, e1, d2, d3, .inr d4⟩
theorem Calm.mono {F G : Nat → Nat → Prop} {w w' : World} (h : Calm F w w') (hF : ∀ k m, F k m → G k m) : Calm G w w' :=
  ⟨h.os, h.tape, h.output, h.size, fun k hk => (h.blk k hk).imp id fun ⟨cur, fz, fz', m, e1, e2, e3, e4⟩ => ⟨cur, fz, fz', m, e1, e2, hF _ _ e3, e4⟩⟩
theorem Calm.cell {F : Nat → Nat → Prop} {w w' : World} (h : Calm F w w') {p : Addr} (hp : p.block < w.heap.size) : w'.cell? p = w.cell? p := by
  rcases h.blk p.block hp with e | ⟨cur, fz, fz', m, e1, e2, _⟩
  · exact World.cell?_of_block e
  · unfold World.cell?
    rw [e1, e2]
theorem Calm.kept {F : Nat → Nat → Prop} {S : Nat → Prop} {w w' : World} (h : Calm F w w') (hS : ∀ b, S b → b < w.heap.size) : Kept S w w' := fun b hs j => h.cell (p := ⟨b, j, none⟩) (hS b hs)
/-- A block that is no row of bytes. -/
theorem Calm.same {F : Nat → Nat → Prop} {w w' : World} (h : Calm F w w') {k : Nat} {o : Obj} (hk : w.heap[k]? = some o) (ho : ∀ c fz, o ≠ .cells c 5 fz) : w'.heap[k]? = some o := by
  have hlt := (Array.getElem?_eq_some_iff.1 hk).1
  rcases h.blk k hlt with e | ⟨cur, fz, fz', m, e1, _⟩
  · exact e.trans hk
  · rw [hk] at e1
    injection e1 with e1
    exact absurd e1 (ho _ _)
theorem Calm.bel {F : Nat → Nat → Prop} {w w' : World} {B : Nat} (h : Calm F w w') (hB : B ≤ w.heap.size) (hF : ∀ k m, F k m → B ≤ k) : Below B w w' := by
  refine ⟨h.os, h.tape, h.output, h.size, fun k hk => ?_⟩
  rcases h.blk k (Nat.lt_of_lt_of_le hk hB) with e | ⟨cur, fz, fz', m, _, _, e3, _⟩
  · exact e
  · have := hF k m e3
    omega
theorem BufAt.calm {F : Nat → Nat → Prop} {w w' : World} {bv : Value} {l : List UInt8} (h : BufAt w bv l) (hc : Calm F w w') : BufAt w' bv l := by
  rcases h with h | ⟨h0, g, cap, cur, fz, hv, hg, r⟩
  · exact .inl h
  · have hlt := (Array.getElem?_eq_some_iff.1 hg).1
    rcases hc.blk g hlt with e | ⟨cur', fz1, fz', m, e1, e2, _⟩
    · exact .inr ⟨h0, g, cap, cur, fz, hv, e.trans hg, r⟩
    · rw [hg] at e1
      injection e1 with e1
      injection e1 with e1 _ _
      subst e1
      exact .inr ⟨h0, g, cap, cur, fz', hv, e2, r⟩
theorem calm_freeze {F : Nat → Nat → Prop} {w : World} {g n : Nat} {cur : Array Value} {fz : Nat × Nat} (hg : w.heap[g]? = some (.cells cur 5 fz)) (hF : F g n) : Calm F w (w.freeze ⟨g, 0, none⟩ n) := by
  unfold World.freeze
  split
  · exact Calm.refl _ _
  · refine ⟨rfl, rfl, rfl, by simp, fun k hk => ?_⟩
    by_cases e : g = k
    · subst e
      obtain ⟨lo, hi⟩ := fz
      refine .inr ⟨cur, (lo, hi), (if lo == hi then (0, 0 + n) else (min lo 0, max hi (0 + n))), n, hg, ?_, hF, ?_⟩
      · simp only [Array.getElem?_modify, hg]
        simp
      · split
        · exact .inr (by simp)
        · simp only
          omega
    · refine .inl ?_
      simp only [Array.getElem?_modify]
      rw [if_neg e]

set_option maxHeartbeats 2000000 in
set_option maxRecDepth 100000 in
theorem string7_any (F : Nat → Nat → Prop) (g : Nat) (bv : Value) (l : List UInt8) (w : World) (c1 : w.cell? ⟨g, 5, none⟩ = some bv) (hB : BufAt w bv l) (hF : ∀ k, bv.ownBlock = some k → F k l.length) :
    Calls Try.prog 41 #[.pointer (some ⟨g, 4, none⟩)] w fun e w' => e = .returned (.string ⟨l.toArray⟩) ∧ Calm F w w' := by
  have mixed : Try.prog.follows Departure.mixedOrders = true := by kernel_rfl
  have c2 : w.drew.cell? ⟨g, 5, none⟩ = some bv := c1
  rcases hB with ⟨rfl, rfl⟩ | ⟨h0, b, cap, cur, fz, rfl, hb, hlc, hcm, hcs, htk⟩
  · have hUS := fun (W : World) (q : Option Addr) => Lib.run_unsafeString_none (P := Try.prog) W 85 3 9 q
    have hSD : (Builtin.unsafeSliceData_ #[49] 85 #[.slice none 0 0]).run Try.prog w.drew = .ok (.pointer none) w.drew := rfl
    clear hF
    go_enter Try.func41, Try.ntmps41
    go_wp2
    go_region
    all_goals (go_wp2; go_ret; exact ⟨rfl, Calm.below ((Below.refl _ w).drew)⟩)
  · have hl0 : l.length ≠ 0 := by simpa using h0
    unfold maxLen at hcm
    have hSD : (Builtin.unsafeSliceData_ #[49] 85 #[.slice (some ⟨b, 0, none⟩) l.length cap]).run Try.prog w.drew = .ok (.pointer (some ⟨b, 0, none⟩)) w.drew :=
      Lib.run_unsafeSliceData_row _ _ _ _ _ _ (by omega)
    have hb' : w.drew.heap[b]? = some (.cells cur 5 fz) := hb
    have hUS : (Builtin.unsafeString_ #[85, 3] 9 #[.pointer (some ⟨b, 0, none⟩), .int .i64 l.length]).run Try.prog w.drew = .ok (.string ⟨l.toArray⟩) (w.drew.freeze ⟨b, 0, none⟩ l.length) := by
      refine Lib.run_unsafeString_row w.drew 85 3 9 5 Try.underlying85 cells_u8 b cur.size (by simp [World.shape?, hb']) l h0 (by omega) (by omega) ?_
      intro j x hx
      have hj := (List.getElem?_eq_some_iff.1 hx).1
      have h1 : (Lib.byteCells l)[j]? = some (.int .u8 x.toNat) := by simp [Lib.byteCells, hx]
      rw [← htk, List.getElem?_take, if_pos hj] at h1
      rw [add_zero_addr]
      unfold World.cell?
      rw [hb']
      simpa using h1
    have HE := Lib.hid (show Calm F w (w.drew.freeze ⟨b, 0, none⟩ l.length) from (Calm.below ((Below.refl _ w).drew)).trans (calm_freeze hb' (hF b rfl)))
    clear hF hb hb' htk hcs hlc hcm
    go_enter Try.func41, Try.ntmps41
    go_wp2
    go_region
    all_goals (go_wp2; go_ret; exact ⟨rfl, HE.out⟩)

end Go.Proofs.Ytfdgmoakobjohaa

/- Part TreeK. -/
namespace Go.Proofs.Ytfdgmoakobjohaa
open Go.RowKit
set_option linter.unusedVariables false

/-- The blocks from P on that there are, but v's own. -/
def SubK (P : Nat → Prop) (w : World) (v : Value) (b : Nat) : Prop := P b ∧ b < w.heap.size ∧ v.ownBlock ≠ some b
/-- A list of nodes of the call's own: what hangs on them lies anywhere from block P on, but in its own row. -/
def OwnK (w : World) (base : Nat) (P : Nat → Prop) (l : List Nd) (v : Value) : Prop := OwnT w base (SubK P w v) l v

theorem OwnK.nil (w : World) (base : Nat) (P : Nat → Prop) : OwnK w base P [] (.slice none 0 0) := OwnT.nil _ _ _

/-- It stays, behind a call that only makes new blocks. -/
theorem OwnK.later {w w' : World} {base : Nat} {P : Nat → Prop} {l : List Nd} {v : Value} (h : OwnK w base P l v) (hb : Below w.heap.size w w') : OwnK w' base P l v :=
  OwnT.later h hb (fun b hs => hs.2.1) (fun b hs => ⟨hs.1, Nat.lt_of_lt_of_le hs.2.1 hb.size, hs.2.2⟩) (fun g hg hs => hs.2.2 hg)
theorem OwnK.tree {w : World} {base : Nat} {P : Nat → Prop} {l : List Nd} {v : Value} (h : OwnK w base P l v) (hlo : ∀ b, base ≤ b → P b) : Tree (fun b => P b ∧ b < w.heap.size) w l v := by
  have hlt := OwnT.lt h
  refine (OwnT.tree h).mono fun b hb => ?_
  rcases hb with hb | hb
  · exact ⟨hb.1, hb.2.1⟩
  · have := hlt b hb
    exact ⟨hlo b this.1, this.2⟩

/-- One node more, at an operation. -/
theorem wp_append_nodeK {w : World} {o : Oper} {a : Act} {K : Act → World → Prop} {Q : Exit → Act → World → Prop} (s x : Operand)
    (ho : o.op = .call { callee := .builtin .append, args := #[s, x], argTypes := #[24, 24] })
    (base : Nat) (P : Nat → Prop) (l : List Nd) (v : Value) (hs : a.eval s = v) (h : OwnK w base P l v) (r : Rn) (ad : Addr) (c : Nat) (hx : a.eval x = .slice (some ad) 1 c)
    (hnews : ∀ j u, (ncells1 r)[j]? = some u → w.cell? (ad.add j) = some u) (hat : AttrsAt (SubK P w v) w r.n.attrs r.va) (hk : Tree (SubK P w v) w r.n.kids r.vk)
    (hlen : l.length ≤ 1000000) (hbase : base ≤ w.heap.size)
    (hK' : ∀ v' w', OwnK w' base P (l ++ [r.n]) v' → w.grownBy w' v.ownBlock → K (a.put o.dst v') w') :
    Oper.wp Try.prog o a w K Q := by
  obtain ⟨i0, hi, hz0, hz1, hz2⟩ := info_parts info_node
  obtain ⟨R, rfl, hown, hat0, hk0, hn⟩ := h
  rw [List.length_map] at hlen
  obtain ⟨A1, c1, hva, _⟩ := id hat
  obtain ⟨A2, c2, hvk, _⟩ := hk.shape
  have h1 : ∀ u ∈ ncells1 r, u.oneCell' = true := by
    intro u hu
    simp only [ncells1, List.mem_cons, List.not_mem_nil, or_false] at hu
    rcases hu with rfl | rfl | rfl | rfl | rfl
    · rfl
    · rfl
    · rw [hva]; rfl
    · rfl
    · rw [hvk]; rfl
  obtain ⟨v', w', hrun, own', hgr, hnew⟩ := run_append_new (w := w) base 24 o.type 37 i0 _ 5 88 Try.underlying24 hi hz0 hz1 hz2 rfl (by decide) v R.length (ncells R) hown ad 1 c (ncells1 r) rfl hnews h1 (by unfold maxLen; omega) (by omega) hbase
  unfold Oper.wp
  simp [execOp, ho, resolve, invoke, builtin, hs, hx, hrun, Result.andThen]
  have hSS : ∀ b, SubK P w v b → SubK P w' v' b := by
    intro b hb
    refine ⟨hb.1, Nat.lt_of_lt_of_le hb.2.1 hgr.size, ?_⟩
    rcases hnew with e | e
    · rw [e]; exact hb.2.2
    · intro hg
      have := e b hg
      have := hb.2.1
      omega
  have kp : Kept (SubK P w v) w w' := Kept.grown hgr fun b hb => ⟨hb.2.1, fun e => hb.2.2 e.symm⟩
  refine (hK' v' w' ⟨R ++ [r], by simp, ?_, ?_, ?_, fun g hg hs => hs.2.2 hg⟩ hgr)
  · rw [List.length_append, ncells_append]
    have : ncells [r] = ncells1 r := by simp [ncells]
    rw [this]
    exact own'
  · intro q hq
    rcases List.mem_append.1 hq with hq | hq
    · exact ((hat0 q hq).keep kp).mono hSS
    · simp at hq
      subst hq
      exact (AttrsAt.keep hat kp).mono hSS
  · intro q hq
    rcases List.mem_append.1 hq with hq | hq
    · exact ((hk0 q hq).keep kp).mono hSS
    · simp at hq
      subst hq
      exact (hk.keep kp).mono hSS

/-- One node more. -/
theorem wpList_append_nodeK {w : World} {ops : Array Oper} {rest : List Oper} {o : Oper} {a : Act} {Q : Exit → Act → World → Prop} (hgd : o.guard = none) (s x : Operand)
    (ho : o.op = .call { callee := .builtin .append, args := #[s, x], argTypes := #[24, 24] })
    (base : Nat) (P : Nat → Prop) (l : List Nd) (v : Value) (hs : a.eval s = v) (h : OwnK w base P l v) (r : Rn) (ad : Addr) (c : Nat) (hx : a.eval x = .slice (some ad) 1 c)
    (hnews : ∀ j u, (ncells1 r)[j]? = some u → w.cell? (ad.add j) = some u) (hat : AttrsAt (SubK P w v) w r.n.attrs r.va) (hk : Tree (SubK P w v) w r.n.kids r.vk)
    (hlen : l.length ≤ 1000000) (hbase : base ≤ w.heap.size)
    (hK : ∀ v' w', OwnK w' base P (l ++ [r.n]) v' → w.grownBy w' v.ownBlock → wpList Try.prog ops Q rest (a.put o.dst v') w') :
    wpList Try.prog ops Q (o :: rest) a w := by
  exact wpList_plain hgd fun K hK' => wp_append_nodeK s x ho base P l v hs h r ad c hx hnews hat hk hlen hbase fun v' w' h1 h2 => hK' _ _ (hK v' w' h1 h2)

/-- One node more, at a step of a region that draws its order. -/
theorem step_append_nodeK {w : World} {ops : Array Oper} {o : Oper} {a : Act} {K : Act → World → Prop} {Q : Exit → Act → World → Prop} {E : Prop} (hgd : o.guard = none) (s x : Operand)
    (ho : o.op = .call { callee := .builtin .append, args := #[s, x], argTypes := #[24, 24] })
    (base : Nat) (P : Nat → Prop) (l : List Nd) (v : Value) (hs : a.eval s = v) (h : OwnK w base P l v) (r : Rn) (ad : Addr) (c : Nat) (hx : a.eval x = .slice (some ad) 1 c)
    (hnews : ∀ j u, (ncells1 r)[j]? = some u → w.cell? (ad.add j) = some u) (hat : AttrsAt (SubK P w v) w r.n.attrs r.va) (hk : Tree (SubK P w v) w r.n.kids r.vk)
    (hlen : l.length ≤ 1000000) (hbase : base ≤ w.heap.size)
    (hK : ∀ v' w', OwnK w' base P (l ++ [r.n]) v' → w.grownBy w' v.ownBlock → K (a.put o.dst v') w') :
    if Region.wanted o (yielded ops a.tmps) = true then Oper.wp Try.prog o a w K Q else E := by
  have hw : Region.wanted o (yielded ops a.tmps) = true := by simp [Region.wanted, hgd]
  rw [if_pos hw]
  exact wp_append_nodeK s x ho base P l v hs h r ad c hx hnews hat hk hlen hbase hK

/-- What came in stays, while the call makes its own; its blocks are none of the call's own row. -/
theorem input_keptK {w wr : World} {P : Nat → Prop} {l : List Nd} {v : Value} (hb : Below w.heap.size w wr) (h : OwnK wr w.heap.size P l v) (o : Obj) :
    Kept (fun b => P b ∧ b < w.heap.size) w (wr.alloc o) ∧ ∀ b, (P b ∧ b < w.heap.size) → SubK P (wr.alloc o) v b := by
  refine ⟨Kept.belowB (hb.alloc hb.size _) fun b hb => hb.2, fun b hlt => ⟨hlt.1, ?_, fun e => ?_⟩⟩
  · have := hb.size
    simp
    omega
  · have := (OwnT.lt h b e).1
    omega

theorem OwnK.drew {w : World} {base : Nat} {P : Nat → Prop} {l : List Nd} {v : Value} (h : OwnK w base P l v) : OwnK w.drew base P l v := h.later ((Below.refl _ _).drew)


/-- The last node's cells. -/
theorem OwnK.last {w : World} {base n c : Nat} {P : Nat → Prop} {A : Option Addr} {m : List Nd} {x : Nd} (h : OwnK w base P (m ++ [x]) (.slice A n c)) :
    ∃ g, A = some ⟨g, 0, none⟩ ∧ n = m.length + 1 ∧ base ≤ g ∧ w.cell? ⟨g, m.length * 5, none⟩ = some (.int .i64 x.kind) ∧ w.cell? ⟨g, m.length * 5 + 3, none⟩ = some (.string x.text) ∧ w.frozen? ⟨g, m.length * 5 + 3, none⟩ = false := by
  obtain ⟨R, hl, hown, hat, hk, hn⟩ := h
  obtain ⟨A', c', hv, _⟩ := own_size hown
  have hnl : n = R.length := by injection hv
  subst hnl
  have hR : 0 < R.length := by
    have := congrArg List.length hl
    simp at this
    omega
  obtain ⟨M, r, rfl⟩ := snoc_of hR
  have hml : M.map Rn.n = m ∧ r.n = x := by
    rw [List.map_append] at hl
    have := List.append_inj' hl (by simp)
    exact ⟨this.1, by simpa using this.2⟩
  have hlen : m.length = M.length := by rw [← hml.1]; simp
  obtain ⟨g, rfl, hcells⟩ : ∃ g, A = some ⟨g, 0, none⟩ ∧ True := by
    rcases hown.2 with ⟨_, h0⟩ | ⟨g, cap, cur, hv, _⟩
    · simp at h0
    · injection hv with hA
      exact ⟨g, hA, trivial⟩
  have ha := ncells_at (R := M ++ [r]) (k := M.length) (r := r) (by simp)
  have hb := hown.lt g rfl
  rw [hlen]
  refine ⟨g, rfl, by simp, hb.1, ?_, ?_, ?_⟩
  · rw [hown.cellAt (M.length * 5) (by rw [List.length_append, List.length_singleton]; omega), ha.1, hml.2]
  · rw [hown.cellAt (M.length * 5 + 3) (by rw [List.length_append, List.length_singleton]; omega), ha.2.2.2.1, hml.2]
  · exact hown.frozenAt _

/-- The last node's text is another one. -/
theorem OwnK.text {w : World} {base g n c : Nat} {P : Nat → Prop} {m : List Nd} {x : Nd} (h : OwnK w base P (m ++ [x]) (.slice (some ⟨g, 0, none⟩) n c)) (t : ByteArray) :
    OwnK (w.setCell ⟨g, m.length * 5 + 3, none⟩ (.string t)) base P (m ++ [.mk x.kind x.name x.attrs t x.kids]) (.slice (some ⟨g, 0, none⟩) n c) ∧ w.grownBy (w.setCell ⟨g, m.length * 5 + 3, none⟩ (.string t)) (some g) := by
  obtain ⟨R, hl, hown, hat, hk, hn⟩ := h
  obtain ⟨A, c', hv, _⟩ := own_size hown
  have hnl : n = R.length := by injection hv
  subst hnl
  have hR : 0 < R.length := by
    have := congrArg List.length hl
    simp at this
    omega
  obtain ⟨M, r, rfl⟩ := snoc_of hR
  have hml : M.map Rn.n = m ∧ r.n = x := by
    rw [List.map_append] at hl
    have := List.append_inj' hl (by simp)
    exact ⟨this.1, by simpa using this.2⟩
  have hlen : m.length = M.length := by rw [← hml.1]; simp
  have st := hown.stored (m.length * 5 + 3) (.string t)
  have hsz : (w.setCell ⟨g, m.length * 5 + 3, none⟩ (.string t)).heap.size = w.heap.size := by simp
  have kp : Kept (SubK P w (.slice (some ⟨g, 0, none⟩) (M ++ [r]).length c)) w (w.setCell ⟨g, m.length * 5 + 3, none⟩ (.string t)) := Kept.grown st.2 fun b hb => ⟨hb.2.1, fun e => hb.2.2 (by injection e with e; subst e; rfl)⟩
  have hSS : ∀ b, SubK P w (.slice (some ⟨g, 0, none⟩) (M ++ [r]).length c) b → SubK P (w.setCell ⟨g, m.length * 5 + 3, none⟩ (.string t)) (.slice (some ⟨g, 0, none⟩) (M ++ [r]).length c) b := fun b hb => ⟨hb.1, by rw [hsz]; exact hb.2.1, hb.2.2⟩
  refine ⟨⟨M ++ [⟨.mk r.n.kind r.n.name r.n.attrs t r.n.kids, r.va, r.vk⟩], ?_, ?_, ?_, ?_, fun g hg hs => hs.2.2 hg⟩, st.2⟩
  · rw [List.map_append, hml.1, ← hml.2]
    rfl
  · have := st.1
    rw [hlen, ncells_set] at this
    rw [hlen]
    simpa using this
  · intro q hq
    rcases List.mem_append.1 hq with hq | hq
    · exact ((hat q (by simp [hq])).keep kp).mono hSS
    · simp at hq
      subst hq
      exact ((hat r (by simp)).keep kp).mono hSS
  · intro q hq
    rcases List.mem_append.1 hq with hq | hq
    · exact ((hk q (by simp [hq])).keep kp).mono hSS
    · simp at hq
      subst hq
      exact ((hk r (by simp)).keep kp).mono hSS

end Go.Proofs.Ytfdgmoakobjohaa

/- Part MathA. -/
namespace Go.Proofs.Ytfdgmoakobjohaa

/-- A byte with A to Z as a to z. -/
def lowB (c : UInt8) : UInt8 := if 65 ≤ c.toNat ∧ c.toNat ≤ 90 then c + 32 else c

theorem lowB_toNat (c : UInt8) : (lowB c).toNat = if 65 ≤ c.toNat ∧ c.toNat ≤ 90 then c.toNat + 32 else c.toNat := by
  unfold lowB
  split
  · rename_i h
    rw [UInt8.toNat_add]
    show (c.toNat + 32) % 256 = _
    omega
  · rfl

theorem lowB_up (c : UInt8) : ¬ (65 ≤ (lowB c).toNat ∧ (lowB c).toNat ≤ 90) := by
  rw [lowB_toNat]
  split <;> omega

theorem lowB_low (c : UInt8) : lowB (lowB c) = lowB c := by
  have h := lowB_up c
  show (if _ then _ else _) = _
  rw [if_neg h]

end Go.Proofs.Ytfdgmoakobjohaa
