/- Parts of the proof, in build order: TxtM Out TbM MpS MathA TokM GoodM BareM. -/
import Derived.Test.YtoidjkkjnhnbhaaK02
import Derived.Test.YtoidjkkjnhnbhaaK01
import Derived.Lib.OthersKept
import Derived.WalkKit

/- Part TxtM. -/
namespace Go.Proofs.Ytoidjkkjnhnbhaa
set_option linter.unusedVariables false

/-- An attribute's text. -/
def attT (a : ByteArray × ByteArray) : List UInt8 := 32 :: (a.1.data.toList ++ (61 :: 34 :: (escB true a.2.data.toList ++ [34])))
/-- What stands ahead of an element's kids, and behind them. -/
def openT (n : Nd) : List UInt8 := 60 :: (n.name.data.toList ++ (n.attrs.flatMap attT ++ [62]))
def closeT (n : Nd) : List UInt8 := 60 :: 47 :: (n.name.data.toList ++ [62])
/-- What is told ahead of, and behind, any node's kids. -/
def openE (n : Nd) : List UInt8 := if n.kind = 1 then openT n else []
def closeE (n : Nd) : List UInt8 := if n.kind = 1 ∧ voidB n.name.data.toList = false then closeT n else []
mutual
/-- A node's text; raw: it stands in a raw element. -/
def txtN (raw : Bool) : Nd → List UInt8
  | .mk k nm a t ks =>
    if k = 3 then 60 :: 33 :: 45 :: 45 :: (t.data.toList ++ [45, 45, 62])
    else if k = 2 then (if raw = true then t.data.toList else escB false t.data.toList)
    else if k = 1 then
      (if voidB nm.data.toList = true then openT (.mk k nm a t ks) else openT (.mk k nm a t ks) ++ (txtL (rawB nm.data.toList) ks ++ closeT (.mk k nm a t ks)))
    else []
/-- Nodes' text. -/
def txtL (raw : Bool) : List Nd → List UInt8
  | [] => []
  | n :: l => txtN raw n ++ txtL raw l
end
theorem txtN_eq (raw : Bool) (n : Nd) : txtN raw n =
    if n.kind = 3 then 60 :: 33 :: 45 :: 45 :: (n.text.data.toList ++ [45, 45, 62])
    else if n.kind = 2 then (if raw = true then n.text.data.toList else escB false n.text.data.toList)
    else if n.kind = 1 then (if voidB n.name.data.toList = true then openT n else openT n ++ (txtL (rawB n.name.data.toList) n.kids ++ closeT n))
    else [] := by
  cases n
  simp only [txtN, Nd.kind, Nd.name, Nd.text, Nd.kids]
  rfl
theorem txtL_nil (raw : Bool) : txtL raw [] = [] := by simp [txtL]
theorem txtL_cons (raw : Bool) (n : Nd) (l : List Nd) : txtL raw (n :: l) = txtN raw n ++ txtL raw l := by simp [txtL]
theorem txtL_append (raw : Bool) : ∀ (a b : List Nd), txtL raw (a ++ b) = txtL raw a ++ txtL raw b
  | [], b => by simp [txtL_nil]
  | x :: a, b => by rw [List.cons_append, txtL_cons, txtL_cons, txtL_append raw a b, List.append_assoc]
theorem txtL_take {raw : Bool} {l : List Nd} {k : Nat} {n : Nd} (h : l[k]? = some n) : txtL raw (l.take (k + 1)) = txtL raw (l.take k) ++ txtN raw n := by
  rw [List.take_add_one, h, txtL_append]
  simp [txtL_cons, txtL_nil]

theorem attT_len (a : ByteArray × ByteArray) : (attT a).length ≤ 6 * (10 + a.1.size + a.2.size) := by
  have h := (escB_len true a.2.data.toList).2
  have h1 : a.1.data.toList.length = a.1.size := by simp
  have h2 : a.2.data.toList.length = a.2.size := by simp
  unfold attT
  simp only [List.length_cons, List.length_append, List.length_nil]
  omega
theorem atts_len : ∀ l : List (ByteArray × ByteArray), (l.flatMap attT).length ≤ 6 * szA l
  | [] => by simp
  | a :: l => by
    have h1 := attT_len a
    have h2 := atts_len l
    rw [List.flatMap_cons, List.length_append, szA]
    omega
theorem openT_len (n : Nd) : (openT n).length ≤ 6 * (n.name.size + szA n.attrs) + 2 := by
  have h1 := atts_len n.attrs
  have h2 : n.name.data.toList.length = n.name.size := by simp
  unfold openT
  simp only [List.length_cons, List.length_append, List.length_nil]
  omega
theorem closeT_len (n : Nd) : (closeT n).length = n.name.size + 3 := by
  have h2 : n.name.data.toList.length = n.name.size := by simp
  unfold closeT
  simp only [List.length_cons, List.length_append, List.length_nil]
  omega

/-- A list's text is bounded by the list's size. -/
theorem txt_len : ∀ l : List Nd, ∀ raw, (txtL raw l).length ≤ 7 * szL l := by
  intro l
  induction l using nd_ind with
  | h l ih =>
    intro raw
    have key : ∀ m : List Nd, (∀ x ∈ m, ∀ r, (txtL r x.kids).length ≤ 7 * szL x.kids) → (txtL raw m).length ≤ 7 * szL m := by
      intro m
      induction m with
      | nil => intro _; simp [txtL_nil]
      | cons x m ihm =>
        intro h
        have h1 := ihm fun y hy => h y (by simp [hy])
        have h2 := h x (by simp) (rawB x.name.data.toList)
        have h3 := szN_eq x
        have h4 := openT_len x
        have h5 := closeT_len x
        have h6 := (escB_len false x.text.data.toList).2
        have h7 : x.text.data.toList.length = x.text.size := by simp
        have h8 : (txtN raw x).length ≤ 7 * szN x := by
          rw [txtN_eq]
          split
          · simp only [List.length_cons, List.length_append, List.length_nil]; omega
          · split
            · split <;> omega
            · split
              · split
                · omega
                · simp only [List.length_append]; omega
              · simp
        rw [txtL_cons, szL_cons, List.length_append]
        omega
    exact key l fun x hx => by
      obtain ⟨i, hi, he⟩ := List.mem_iff_getElem.1 hx
      exact ih i x (by rw [List.getElem?_eq_getElem hi, he])

/-! ### all texts -/
mutual
def plainN : Nd → List UInt8
  | .mk k _ _ t ks => (if k = 2 then t.data.toList else []) ++ plainL ks
def plainL : List Nd → List UInt8
  | [] => []
  | n :: l => plainN n ++ plainL l
end
theorem plainN_eq (n : Nd) : plainN n = (if n.kind = 2 then n.text.data.toList else []) ++ plainL n.kids := by
  cases n
  simp only [plainN, Nd.kind, Nd.text, Nd.kids]
  rfl
theorem plainL_nil : plainL [] = [] := by simp [plainL]
theorem plainL_cons (n : Nd) (l : List Nd) : plainL (n :: l) = plainN n ++ plainL l := by simp [plainL]
theorem plainL_append : ∀ (a b : List Nd), plainL (a ++ b) = plainL a ++ plainL b
  | [], b => by simp [plainL_nil]
  | x :: a, b => by rw [List.cons_append, plainL_cons, plainL_cons, plainL_append a b, List.append_assoc]
theorem plainL_take {l : List Nd} {k : Nat} {n : Nd} (h : l[k]? = some n) : plainL (l.take (k + 1)) = plainL (l.take k) ++ plainN n := by
  rw [List.take_add_one, h, plainL_append]
  simp [plainL_cons, plainL_nil]
theorem plain_len : ∀ l : List Nd, (plainL l).length ≤ szL l := by
  intro l
  induction l using nd_ind with
  | h l ih =>
    have key : ∀ m : List Nd, (∀ x ∈ m, (plainL x.kids).length ≤ szL x.kids) → (plainL m).length ≤ szL m := by
      intro m
      induction m with
      | nil => intro _; simp [plainL_nil]
      | cons x m ihm =>
        intro h
        have h1 := ihm fun y hy => h y (by simp [hy])
        have h2 := h x (by simp)
        have h3 := szN_eq x
        have h7 : x.text.data.toList.length = x.text.size := by simp
        have h8 : (plainN x).length ≤ szN x := by
          rw [plainN_eq, List.length_append]
          split
          · omega
          · simp; omega
        rw [plainL_cons, szL_cons, List.length_append]
        omega
    exact key l fun x hx => by
      obtain ⟨i, hi, he⟩ := List.mem_iff_getElem.1 hx
      exact ih i x (by rw [List.getElem?_eq_getElem hi, he])

end Go.Proofs.Ytoidjkkjnhnbhaa

/- Part Out. -/
namespace Go.Proofs.Ytoidjkkjnhnbhaa
open Go.RowKit
set_option linter.unusedVariables false

theorem dN_below {B : Nat} {a w : World} (h : Below B a w) (n : Nat) : Below B a (w.drewN n) := h.trans ⟨rfl, rfl, rfl, Nat.le_refl _, fun _ _ => rfl⟩

/-- Every block but b, and but rows of bytes, stands as it stood. -/
abbrev Oth (b : Nat) (W W' : World) : Prop := Lib.OthersKept 5 (some b) W W'
theorem Oth.box {b k : Nat} {W W' : World} {cs : Array Value} {t : TypeId} (h : Oth b W W') (hk : W.heap[k]? = some (.cells cs t (0, 0))) (hb : k ≠ b) (ht : t ≠ 5) : W'.heap[k]? = some (.cells cs t (0, 0)) :=
  h k _ hk (fun e => hb (Option.some.inj e)) (fun c fz e => ht (by injection e))
theorem Oth.below {b : Nat} {W W' : World} (h : Below W.heap.size W W') : Oth b W W' := fun k o hk _ _ => by
  have hlt : k < W.heap.size := (Array.getElem?_eq_some_iff.1 hk).1
  exact (h.block k hlt).trans hk
theorem cell_at {W : World} {k : Nat} {cs : Array Value} {t : TypeId} (h : W.heap[k]? = some (.cells cs t (0, 0))) (j : Nat) : W.cell? ⟨k, j, none⟩ = cs[j]? := by simp [World.cell?, h]
theorem box_here (W : World) (cs : Array Value) (t : TypeId) : (W.alloc (.cells cs t)).heap[W.heap.size]? = some (.cells cs t (0, 0)) := heap_alloc_new W _

/-- The function g, over the variable b that it has taken along, is told pieces: Inv says what it has been told; it changes nothing but its own. -/
structure Out (n0 : Nat) (w0 : World) (g : FuncId) (b M : Nat) (Inv : List UInt8 → World → Prop) : Prop where
  ent : ∀ args w, (callFunc g args).run Try.prog w = .ok (.enter g args) w
  call : ∀ (acc : List UInt8) (s : ByteArray) (W : World), Inv acc W → acc.length + s.data.toList.length ≤ M →
    Calls Try.prog g #[.string s, .pointer (some ⟨b, 0, none⟩)] W fun e W' => e = .returned (.tuple #[]) ∧ Inv (acc ++ s.data.toList) W' ∧ Oth b W W'
  bel : ∀ acc W, Inv acc W → Below n0 w0 W
  new : ∀ acc W W', Inv acc W → Below W.heap.size W W' → Inv acc W'
  lt : ∀ acc W, Inv acc W → b < W.heap.size

/-- What a call that tells pieces hands back. -/
def Told (Inv : List UInt8 → World → Prop) (b : Nat) (W : World) (acc : List UInt8) (e : Ending) (W' : World) : Prop :=
  e = .returned (.tuple #[]) ∧ Inv acc W' ∧ Oth b W W'

end Go.Proofs.Ytoidjkkjnhnbhaa

/- Part TbM. -/
namespace Go.Proofs.Ytoidjkkjnhnbhaa

/-- Bytes as a text. -/
def tB (l : List UInt8) : ByteArray := ⟨l.toArray⟩
theorem tB_list (l : List UInt8) : (tB l).data.toList = l := by simp [tB]
theorem tB_of (s : ByteArray) : tB s.data.toList = s := by
  apply ByteArray.ext
  simp [tB]
theorem tB_eq {s : ByteArray} {l : List UInt8} (h : s.data.toList = l) : s = tB l := by rw [← h, tB_of]
theorem tB_inj {a b : List UInt8} (h : tB a = tB b) : a = b := by
  have := congrArg (fun s : ByteArray => s.data.toList) h
  simpa [tB] using this
theorem bytes_inj {a b : ByteArray} (h : a.data.toList = b.data.toList) : a = b := by rw [tB_eq h, tB_of]
theorem tB_app (a b : List UInt8) : tB (a ++ b) = tB a ++ tB b := by
  apply ByteArray.ext
  simp [tB, ByteArray.data_append]
theorem tB_size (l : List UInt8) : (tB l).size = l.length := by simp [tB, ByteArray.size]

end Go.Proofs.Ytoidjkkjnhnbhaa

/- Part MpS. -/
namespace Go.Proofs.Ytoidjkkjnhnbhaa
open Go.RowKit Go.Maps
set_option linter.unusedVariables false

/-- How a slice is told in a datum: its block, its length, its capacity. -/
def slcElem : Value → Option (DataW Unit × List MemPlace)
  | .slice none 0 0 => some (.agg [], [])
  | .slice (some ⟨b, 0, none⟩) n c => some (.agg [.lit (.int .i64 b), .lit (.int .i64 n), .lit (.int .i64 c)], [])
  | _ => none
/-- What is found under a key. -/
def slV : Option (Nat × Nat × Nat) → Value
  | none => .slice none 0 0
  | some (b, n, c) => .slice (some ⟨b, 0, none⟩) n c
def slD : Option (Nat × Nat × Nat) → DataW Unit
  | none => .agg []
  | some (b, n, c) => .agg [.lit (.int .i64 b), .lit (.int .i64 n), .lit (.int .i64 c)]
theorem slcElem_mk (x : Option (Nat × Nat × Nat)) : slcElem (slV x) = some (slD x, []) := by
  rcases x with _ | ⟨b, n, c⟩ <;> rfl
theorem slcElem_inv {v : Value} {x : Option (Nat × Nat × Nat)} {ps : List MemPlace} (h : slcElem v = some (slD x, ps)) : v = slV x := by
  unfold slcElem at h
  split at h
  · rcases x with _ | ⟨b, n, c⟩
    · rfl
    · simp [slD] at h
  · rcases x with _ | ⟨b, n, c⟩
    · simp [slD] at h
    · simp [slD] at h
      obtain ⟨⟨h1, h2, h3⟩, _⟩ := h
      rename_i b' n' c' _
      obtain rfl : b' = b := by omega
      obtain rfl : n' = n := by omega
      obtain rfl : c' = c := by omega
      rfl
  · cases h

/-- What a datum says of texts. -/
def MView (D : DataW Unit) (f : List UInt8 → Option (Nat × Nat × Nat)) : Prop :=
  IsMap D ∧ ∀ l, Maps.has D (.string l) = (f l).isSome ∧ ∀ z, D.atKey (.string l) z = if (f l).isSome = true then slD (f l) else z
theorem MView.empty : MView (.map []) (fun _ => none) := ⟨isMap_empty, fun l => ⟨rfl, fun z => rfl⟩⟩
def updM {α : Type} (f : List UInt8 → Option α) (k : List UInt8) (v : α) : List UInt8 → Option α := fun l => if l = k then some v else f l
theorem MView.put {D : DataW Unit} {f : List UInt8 → Option (Nat × Nat × Nat)} (h : MView D f) (k : List UInt8) (v : Nat × Nat × Nat) : MView (D.put (.string k) (slD (some v))) (updM f k v) := by
  refine ⟨h.1.put _ _, fun l => ?_⟩
  unfold updM
  by_cases e : l = k
  · subst e
    rw [if_pos rfl]
    exact ⟨has_put_same h.1 (show WideAt.IsKeyLit (.string l) from trivial) _, fun z => atKey_put_same h.1 (show WideAt.IsKeyLit (.string l) from trivial) _ z⟩
  · rw [if_neg e]
    have hne : (Lit.string l) ≠ .string k := by intro h; injection h; exact e ‹_›
    refine ⟨?_, fun z => ?_⟩
    · rw [has_put_other hne]; exact (h.2 l).1
    · rw [atKey_put_other hne]; exact (h.2 l).2 z

/-- Block b is a map of at most n entries: under a key that g tells of lies a slice of those texts. -/
def MapL (w : World) (b n : Nat) (g : List UInt8 → Option (List (List UInt8))) : Prop := ∃ (f : List UInt8 → Option (Nat × Nat × Nat)) (D : DataW Unit), w.ownsMap Try.prog 9 slcElem b n D ∧ MView D f ∧
  ∀ o, (f o).isSome = (g o).isSome ∧ ∀ bx m c Ls, f o = some (bx, m, c) → g o = some Ls → m = Ls.length ∧ m ≤ c ∧ bx < w.heap.size ∧ bx ≠ b ∧ ∀ j x, Ls[j]? = some x → w.cell? ⟨bx, j, none⟩ = some (.string (tB x))

theorem MapL.below {w w' : World} {b n : Nat} {g : List UInt8 → Option (List (List UInt8))} (h : MapL w b n g) (hb : Below w.heap.size w w') : MapL w' b n g := by
  obtain ⟨f, D, ⟨es, clock, hh, F, hs, hD⟩, hv, hc⟩ := h
  have hlt := (Array.getElem?_eq_some_iff.1 hh).1
  refine ⟨f, D, ⟨es, clock, (hb.block b hlt).trans hh, F, hs, hD⟩, hv, fun o => ⟨(hc o).1, fun bx m c Ls hf hg => ?_⟩⟩
  obtain ⟨h1, h2, h3, h4, h5⟩ := (hc o).2 bx m c Ls hf hg
  exact ⟨h1, h2, Nat.lt_of_lt_of_le h3 hb.size, h4, fun j x hj => (hb.cell (p := ⟨bx, j, none⟩) h3).trans (h5 j x hj)⟩
theorem MapL.lt {w : World} {b n : Nat} {g : List UInt8 → Option (List (List UInt8))} (h : MapL w b n g) : b < w.heap.size := by
  obtain ⟨f, D, h, _⟩ := h
  exact h.lt
theorem MapL.made (w : World) : MapL (w.alloc (.map #[] 0)) w.heap.size 0 (fun _ => none) :=
  ⟨fun _ => none, _, World.ownsMap_made _ _ _ _, MView.empty, fun o => ⟨rfl, fun bx m c Ls hf => by cases hf⟩⟩
theorem MapL.congr {w : World} {b n : Nat} {f g : List UInt8 → Option (List (List UInt8))} (h : MapL w b n f) (e : ∀ l, f l = g l) : MapL w b n g := by
  have : f = g := funext e
  subst this
  exact h

/-- An entry of a map's literal: a slice that has just been made. -/
theorem MapL.insert {W : World} {b n : Nat} {g : List UInt8 → Option (List (List UInt8))} (h : MapL W b n g) (hn : n < 1000) (T : TypeId) (hT : Try.prog.underlying T = some (.map 9 22)) (Ls : List (List UInt8)) (cs : Array Value) (ty : TypeId)
    (hcs : cs.toList = Ls.map (fun x => .string (tB x))) (k : ByteArray) (hk : k.size ≤ maxLen) (L : Nat) (hL : L = Ls.length) (nb : Nat) (hnb : nb = W.heap.size) :
    ∃ w', (Instr.mapUpdate T (.map (some b)) (.string k) (.slice (some ⟨nb, 0, none⟩) L L)).run Try.prog (W.alloc (.cells cs ty)) = .ok () w' ∧ MapL w' b (n + 1) (updM g k.data.toList Ls) ∧ (W.alloc (.cells cs ty)).grownBy w' (some b) := by
  subst hnb
  have hlt := h.lt
  have h1 := h.below (below_new W (.cells cs ty))
  obtain ⟨f, D, hown, hvw, hc⟩ := h1
  obtain ⟨w', hrun, r1, r2⟩ := hown.update strKeyed hT (by unfold maxLen; omega) (Go.WideMaps.keyOf_string_mk Try.underlying9 hk) (slcElem_mk (some (W.heap.size, L, L)))
  have hsz := r2.size
  refine ⟨w', hrun, ⟨updM f k.data.toList (W.heap.size, L, L), _, r1, hvw.put _ _, fun o' => ?_⟩, r2⟩
  unfold updM
  by_cases e : o' = k.data.toList
  · rw [if_pos e, if_pos e]
    refine ⟨rfl, fun bx m' c Ls' hf hg' => ?_⟩
    injection hf with hf
    injection hg' with hg'
    subst hg'
    injection hf with e1 e2
    injection e2 with e2 e3
    subst e1 e2 e3
    refine ⟨hL, Nat.le_refl _, by have := r2.size; simp at this; omega, by omega, fun j x hj => ?_⟩
    rw [World.cell?_of_block (a := ⟨W.heap.size, j, none⟩) (r2.block _ (by simp) (by simp; omega)), cell_at (box_here W cs ty), ← Array.getElem?_toList, hcs, List.getElem?_map, hj]
    rfl
  · rw [if_neg e, if_neg e]
    refine ⟨(hc o').1, fun bx m' c Ls' hf hg' => ?_⟩
    obtain ⟨h1, h2, h3, h4, h5⟩ := (hc o').2 bx m' c Ls' hf hg'
    refine ⟨h1, h2, Nat.lt_of_lt_of_le h3 hsz, h4, fun j x hj => ?_⟩
    rw [World.cell?_of_block (a := ⟨bx, j, none⟩) (r2.block _ h3 (by simpa using h4))]
    exact h5 j x hj

/-- 'm[o]': nothing, or a slice of the texts. -/
theorem MapL.get {w : World} {b n : Nat} {g : List UInt8 → Option (List (List UInt8))} {T : TypeId} (h : MapL w b n g) (hT : Try.prog.underlying T = some (.map 9 22)) (hz : (zeroValue 22).run Try.prog w = .ok (.slice none 0 0) w) (k : ByteArray) (hk : k.size ≤ maxLen) :
    (g k.data.toList = none ∧ (Instr.lookup T (.map (some b)) (.string k) false).run Try.prog w = .ok (.slice none 0 0) w) ∨
    ∃ Ls bx c, g k.data.toList = some Ls ∧ (Instr.lookup T (.map (some b)) (.string k) false).run Try.prog w = .ok (.slice (some ⟨bx, 0, none⟩) Ls.length c) w ∧ Ls.length ≤ c ∧ bx < w.heap.size ∧ ∀ j x, Ls[j]? = some x → w.cell? ⟨bx, j, none⟩ = some (.string (tB x)) := by
  obtain ⟨f, D, hown, hv, hc⟩ := h
  obtain ⟨v, ps, hrun, hv2⟩ := hown.lookup strKeyed hT hz (slcElem_mk none) (Go.WideMaps.keyOf_string_mk Try.underlying9 hk)
  have hat := (hv.2 k.data.toList).2 (slD none)
  rw [hat] at hv2
  have hsm := (hc k.data.toList).1
  cases hf : f k.data.toList with
  | none =>
    rw [hf] at hv2 hsm
    have hg : g k.data.toList = none := by
      cases hg : g k.data.toList with
      | none => rfl
      | some y => rw [hg] at hsm; cases hsm
    rw [if_neg (by simp)] at hv2
    have := slcElem_inv hv2
    subst this
    exact .inl ⟨hg, hrun⟩
  | some y =>
    obtain ⟨bx, m, c⟩ := y
    rw [hf] at hv2 hsm
    rw [if_pos (show (some (bx, m, c)).isSome = true from rfl)] at hv2
    have := slcElem_inv hv2
    subst this
    cases hg : g k.data.toList with
    | none => rw [hg] at hsm; cases hsm
    | some Ls =>
      obtain ⟨h1, h2, h3, h4, h5⟩ := (hc k.data.toList).2 bx m c Ls hf hg
      subst h1
      exact .inr ⟨Ls, bx, c, rfl, hrun, h2, h3, h5⟩

end Go.Proofs.Ytoidjkkjnhnbhaa

/- Part MathA. -/
namespace Go.Proofs.Ytoidjkkjnhnbhaa

/-- A byte with A to Z as a to z. -/
def lowB (c : UInt8) : UInt8 := if 65 ≤ c.toNat ∧ c.toNat ≤ 90 then c + 32 else c

theorem lowB_toNat (c : UInt8) : (lowB c).toNat = if 65 ≤ c.toNat ∧ c.toNat ≤ 90 then c.toNat + 32 else c.toNat := by
  unfold lowB
  split
  · rename_i h
    rw [UInt8.toNat_add]
    show (c.toNat + 32) % 256 = _
    omega
  · rfl

theorem lowB_up (c : UInt8) : ¬ (65 ≤ (lowB c).toNat ∧ (lowB c).toNat ≤ 90) := by
  rw [lowB_toNat]
  split <;> omega

theorem lowB_low (c : UInt8) : lowB (lowB c) = lowB c := by
  have h := lowB_up c
  show (if _ then _ else _) = _
  rw [if_neg h]

end Go.Proofs.Ytoidjkkjnhnbhaa

/- Part TokM. -/
namespace Go.Proofs.Ytoidjkkjnhnbhaa
set_option linter.unusedVariables false

/-- A blank; a letter; a byte of a tag's name; one at which an attribute's name ends; one of a value without quotes. -/
def blC (c : UInt8) : Bool := decide (c.toNat = 9) || decide (c.toNat = 10) || decide (c.toNat = 12) || decide (c.toNat = 32)
def letC (c : UInt8) : Bool := (decide (65 ≤ c.toNat) && decide (c.toNat ≤ 90)) || (decide (97 ≤ c.toNat) && decide (c.toNat ≤ 122))
def tagC (c : UInt8) : Bool := letC c || (decide (48 ≤ c.toNat) && decide (c.toNat ≤ 57)) || decide (c.toNat = 45)
def stopC (c : UInt8) : Bool := blC c || decide (c.toNat = 47) || decide (c.toNat = 62) || decide (c.toNat = 61)
def goC (c : UInt8) : Bool := !stopC c
def valC (c : UInt8) : Bool := !(blC c || decide (c.toNat = 62))
/-- No quote q. -/
def neC (q : UInt8) (c : UInt8) : Bool := !decide (c = q)

/-- A token. -/
structure Tk where
  kind : Int
  name : ByteArray
  attrs : List (ByteArray × ByteArray)
  text : ByteArray
def tkB (name : List UInt8) (ats : List (ByteArray × ByteArray)) : Tk := ⟨1, tB name, ats, tB []⟩
def tkE (name : List UInt8) : Tk := ⟨2, tB name, [], tB []⟩
def tkC (text : List UInt8) : Tk := ⟨3, tB [], [], tB text⟩
def tkR (text : List UInt8) : Tk := ⟨4, tB [], [], tB text⟩

/-- A value, and what stands behind it; none: it does not end. -/
def valOf : List UInt8 → Option (List UInt8 × List UInt8)
  | [] => some ([], [])
  | q :: r =>
    if q = 34 ∨ q = 39 then (if q ∈ r then some (r.takeWhile (neC q), (r.dropWhile (neC q)).drop 1) else none)
    else some ((q :: r).takeWhile valC, (q :: r).dropWhile valC)
/-- The name of the attribute at a place; what stands behind it and blanks. -/
def nameAt (l : List UInt8) : List UInt8 := (l.takeWhile goC).map lowB
def behind (l : List UInt8) : List UInt8 := (l.dropWhile goC).dropWhile blC
/-- The attribute at a place, and what stands behind it. -/
def attOf (l : List UInt8) : Option ((ByteArray × ByteArray) × List UInt8) :=
  match behind l with
  | [] => some ((tB (nameAt l), tB []), [])
  | c :: r =>
    if c = 61 then
      (match valOf (r.dropWhile blC) with
      | none => none
      | some x => some ((tB (nameAt l), tB (decB x.1)), x.2))
    else some ((tB (nameAt l), tB []), c :: r)
/-- Of attributes of one name the first one counts. -/
def addA (acc : List (ByteArray × ByteArray)) (a : ByteArray × ByteArray) : List (ByteArray × ByteArray) := if acc.any (fun x => decide (x.1 = a.1)) = true then acc else acc ++ [a]
/-- A beginning tag's attributes, and what stands behind its end; none: it does not end. -/
def attsOf (acc : List (ByteArray × ByteArray)) (l : List UInt8) : Option (List (ByteArray × ByteArray) × List UInt8) :=
  match l with
  | [] => none
  | c :: r =>
    if c = 62 then some (acc, r)
    else if stopC c = true then attsOf acc r
    else match attOf (c :: r) with
      | none => none
      | some x => if h : x.2.length < (c :: r).length then attsOf (addA acc x.1) x.2 else none
termination_by l.length

/-- What stands ahead of -->, and behind it (or all that is left). -/
def upTo3 : List UInt8 → List UInt8 × List UInt8
  | [] => ([], [])
  | c :: r => if Lib.hasPrefix (c :: r) [45, 45, 62] = true then ([], (c :: r).drop 3) else (c :: (upTo3 r).1, (upTo3 r).2)
def upTo1 (l : List UInt8) : List UInt8 × List UInt8 := (l.takeWhile (neC 62), (l.dropWhile (neC 62)).drop 1)

/-- Does a tag or a comment begin? -/
def startsB : List UInt8 → Bool
  | a :: c :: _ => decide (a = 60) && (letC c || decide (c = 33) || decide (c = 63) || decide (c = 47))
  | _ => false
/-- A closing tag, or what </ begins. -/
def slashB : List UInt8 → Option Tk × List UInt8
  | [] => (some (tkR []), [])
  | d :: r =>
    if d = 62 then (none, r)
    else if letC d = true then (if 62 ∈ d :: r then (some (tkE (((d :: r).takeWhile tagC).map lowB)), (upTo1 (d :: r)).2) else (none, []))
    else (some (tkR (upTo1 (d :: r)).1), (upTo1 (d :: r)).2)
/-- What a < and what stands behind it begin, and what stands behind that. -/
def tagB : List UInt8 → Option Tk × List UInt8
  | _ :: c :: r =>
    if letC c = true then
      (match attsOf [] ((c :: r).dropWhile tagC) with
      | some x => (some (tkB (((c :: r).takeWhile tagC).map lowB) x.1), x.2)
      | none => (none, []))
    else if Lib.hasPrefix (c :: r) [33, 45, 45] = true then (some (tkR (upTo3 (r.drop 2)).1), (upTo3 (r.drop 2)).2)
    else if c = 47 then slashB r
    else (some (tkR (upTo1 r).1), (upTo1 r).2)
  | _ => (none, [])
/-- Does a raw element's end stand here? -/
def endAt (nm l : List UInt8) : Bool :=
  decide ((l.take (2 + nm.length)).map lowB = 60 :: 47 :: nm) && (match l.drop (2 + nm.length) with | [] => false | c :: _ => blC c || decide (c = 47) || decide (c = 62))
/-- What stands up to a raw element's end, and from there. -/
def cutEnd (nm : List UInt8) : List UInt8 → List UInt8 × List UInt8
  | [] => ([], [])
  | c :: r => if endAt nm (c :: r) = true then ([], c :: r) else (c :: (cutEnd nm r).1, (cutEnd nm r).2)
/-- Characters up to the next tag or comment. -/
def charsB : List UInt8 → List UInt8 × List UInt8
  | [] => ([], [])
  | c :: r => if startsB (c :: r) = true then ([], c :: r) else (c :: (charsB r).1, (charsB r).2)
def rawBody (l : List UInt8) : List Tk := if l = [] then [] else [tkC l]
def rawTk (k : Tk) : Bool := decide (k.kind = 1) && rawB k.name.data.toList

/-- A text's tokens. -/
def tokB (l : List UInt8) : List Tk :=
  match l with
  | [] => []
  | c :: r =>
    if startsB (c :: r) = true then
      (if h : (tagB (c :: r)).2.length < (c :: r).length then
        (match (tagB (c :: r)).1 with
        | none => tokB (tagB (c :: r)).2
        | some k =>
          if rawTk k = true then
            (if h2 : (cutEnd k.name.data.toList (tagB (c :: r)).2).2.length ≤ (tagB (c :: r)).2.length then k :: (rawBody (cutEnd k.name.data.toList (tagB (c :: r)).2).1 ++ tokB (cutEnd k.name.data.toList (tagB (c :: r)).2).2) else [])
          else k :: tokB (tagB (c :: r)).2)
      else [])
    else (if h : (charsB (c :: r)).2.length < (c :: r).length then tkC (decB (charsB (c :: r)).1) :: tokB (charsB (c :: r)).2 else [])
termination_by l.length
decreasing_by all_goals (simp only [List.length_cons] at *; omega)

/-! ### their rows -/
theorem valOf_cons (q : UInt8) (r : List UInt8) : valOf (q :: r) = if q = 34 ∨ q = 39 then (if q ∈ r then some (r.takeWhile (neC q), (r.dropWhile (neC q)).drop 1) else none) else some ((q :: r).takeWhile valC, (q :: r).dropWhile valC) := rfl
theorem attOf_nil {l : List UInt8} (h : behind l = []) : attOf l = some ((tB (nameAt l), tB []), []) := by unfold attOf; rw [h]
theorem attOf_eq {l : List UInt8} {r : List UInt8} (h : behind l = 61 :: r) : attOf l = (match valOf (r.dropWhile blC) with | none => none | some x => some ((tB (nameAt l), tB (decB x.1)), x.2)) := by
  unfold attOf
  rw [h]
  exact if_pos rfl
theorem attOf_other {l : List UInt8} {c : UInt8} {r : List UInt8} (h : behind l = c :: r) (hc : c ≠ 61) : attOf l = some ((tB (nameAt l), tB []), c :: r) := by
  unfold attOf
  rw [h]
  exact if_neg hc
theorem upTo3_cons (c : UInt8) (r : List UInt8) : upTo3 (c :: r) = if Lib.hasPrefix (c :: r) [45, 45, 62] = true then ([], (c :: r).drop 3) else (c :: (upTo3 r).1, (upTo3 r).2) := rfl
theorem slashB_cons (d : UInt8) (r : List UInt8) : slashB (d :: r) = if d = 62 then (none, r) else if letC d = true then (if 62 ∈ d :: r then (some (tkE (((d :: r).takeWhile tagC).map lowB)), (upTo1 (d :: r)).2) else (none, [])) else (some (tkR (upTo1 (d :: r)).1), (upTo1 (d :: r)).2) := rfl
theorem tagB_letter {a c : UInt8} {r : List UInt8} (h : letC c = true) : tagB (a :: c :: r) = (match attsOf [] ((c :: r).dropWhile tagC) with | some x => (some (tkB (((c :: r).takeWhile tagC).map lowB) x.1), x.2) | none => (none, [])) := by
  show (if letC c = true then _ else _) = _
  rw [if_pos h]
theorem tagB_remark {a : UInt8} (r : List UInt8) : tagB (a :: 33 :: 45 :: 45 :: r) = (some (tkR (upTo3 r).1), (upTo3 r).2) := rfl
theorem tagB_slash {a : UInt8} (r : List UInt8) : tagB (a :: 47 :: r) = slashB r := rfl
theorem tagB_other {a c : UInt8} {r : List UInt8} (h : letC c = false) (h1 : Lib.hasPrefix (c :: r) [33, 45, 45] = false) (h2 : c ≠ 47) : tagB (a :: c :: r) = (some (tkR (upTo1 r).1), (upTo1 r).2) := by
  show (if letC c = true then _ else if Lib.hasPrefix (c :: r) [33, 45, 45] = true then _ else if c = 47 then _ else _) = _
  rw [if_neg (by rw [h]; decide), if_neg (by rw [h1]; decide), if_neg h2]
theorem cutEnd_cons (nm : List UInt8) (c : UInt8) (r : List UInt8) : cutEnd nm (c :: r) = if endAt nm (c :: r) = true then ([], c :: r) else (c :: (cutEnd nm r).1, (cutEnd nm r).2) := rfl
theorem charsB_cons (c : UInt8) (r : List UInt8) : charsB (c :: r) = if startsB (c :: r) = true then ([], c :: r) else (c :: (charsB r).1, (charsB r).2) := rfl

/-! ### lengths -/
theorem drop_len {α : Type} (p : α → Bool) (l : List α) : (l.dropWhile p).length ≤ l.length := (List.dropWhile_sublist p).length_le

theorem valOf_len {l : List UInt8} {x : List UInt8 × List UInt8} (h : valOf l = some x) : x.2.length ≤ l.length := by
  cases l with
  | nil =>
    have h' : some (([], []) : List UInt8 × List UInt8) = some x := h
    injection h' with h'
    subst h'
    simp
  | cons q r =>
    rw [valOf_cons] at h
    split at h
    · split at h
      · injection h with h
        subst h
        have := drop_len (neC q) r
        simp only [List.length_drop, List.length_cons]
        omega
      · cases h
    · injection h with h
      subst h
      exact drop_len _ _
theorem behind_len (l : List UInt8) : (behind l).length ≤ (l.dropWhile goC).length := drop_len _ _
theorem go_less {c : UInt8} {r : List UInt8} (h : stopC c = false) : ((c :: r).dropWhile goC).length < (c :: r).length := by
  have : goC c = true := by simp [goC, h]
  rw [List.dropWhile_cons, if_pos this]
  have := drop_len goC r
  simp only [List.length_cons]
  omega
theorem attOf_len {c : UInt8} {r : List UInt8} {x : (ByteArray × ByteArray) × List UInt8} (hc : stopC c = false) (h : attOf (c :: r) = some x) : x.2.length < (c :: r).length := by
  have h1 := behind_len (c :: r)
  have h2 := go_less (r := r) hc
  cases hb : behind (c :: r) with
  | nil =>
    rw [attOf_nil hb] at h
    injection h with h
    subst h
    simp
  | cons c' r' =>
    rw [hb, List.length_cons] at h1
    by_cases he : c' = 61
    · subst he
      rw [attOf_eq hb] at h
      cases hv : valOf (r'.dropWhile blC) with
      | none => rw [hv] at h; cases h
      | some y =>
        rw [hv] at h
        injection h with h
        subst h
        have h3 := valOf_len hv
        have h4 := drop_len blC r'
        show y.2.length < _
        omega
    · rw [attOf_other hb he] at h
      injection h with h
      subst h
      show (c' :: r').length < _
      rw [List.length_cons]
      omega

theorem attsOf_nil (acc : List (ByteArray × ByteArray)) : attsOf acc [] = none := by unfold attsOf; rfl
theorem attsOf_end (acc : List (ByteArray × ByteArray)) (r : List UInt8) : attsOf acc (62 :: r) = some (acc, r) := by unfold attsOf; rw [if_pos rfl]
theorem attsOf_skip (acc : List (ByteArray × ByteArray)) {c : UInt8} (r : List UInt8) (h1 : c ≠ 62) (h2 : stopC c = true) : attsOf acc (c :: r) = attsOf acc r := by
  conv => lhs; unfold attsOf
  rw [if_neg h1, if_pos h2]
theorem attsOf_none (acc : List (ByteArray × ByteArray)) {c : UInt8} {r : List UInt8} (h2 : stopC c = false) (h : attOf (c :: r) = none) : attsOf acc (c :: r) = none := by
  have h1 : c ≠ 62 := fun e => by subst e; cases h2
  unfold attsOf
  rw [if_neg h1, if_neg (by rw [h2]; decide), h]
theorem attsOf_some (acc : List (ByteArray × ByteArray)) {c : UInt8} {r : List UInt8} {x : (ByteArray × ByteArray) × List UInt8} (h2 : stopC c = false) (h : attOf (c :: r) = some x) : attsOf acc (c :: r) = attsOf (addA acc x.1) x.2 := by
  have h1 : c ≠ 62 := fun e => by subst e; cases h2
  conv => lhs; unfold attsOf
  rw [if_neg h1, if_neg (by rw [h2]; decide), h]
  exact dif_pos (attOf_len h2 h)

theorem attsOf_len : ∀ (n : Nat) (l : List UInt8) (acc : List (ByteArray × ByteArray)) (x : List (ByteArray × ByteArray) × List UInt8), l.length ≤ n → attsOf acc l = some x → x.2.length < l.length
  | n, [], acc, x, _, h => by rw [attsOf_nil] at h; cases h
  | 0, c :: r, acc, x, hn, h => by simp at hn
  | n + 1, c :: r, acc, x, hn, h => by
    rw [List.length_cons] at hn ⊢
    by_cases h1 : c = 62
    · subst h1
      rw [attsOf_end] at h
      injection h with h
      subst h
      show r.length < r.length + 1
      omega
    cases h2 : stopC c with
    | true =>
      rw [attsOf_skip acc r h1 h2] at h
      have := attsOf_len n r acc x (by omega) h
      omega
    | false =>
      cases h3 : attOf (c :: r) with
      | none => rw [attsOf_none acc h2 h3] at h; cases h
      | some y =>
        rw [attsOf_some acc h2 h3] at h
        have h4 := attOf_len h2 h3
        rw [List.length_cons] at h4
        have := attsOf_len n y.2 _ x (by omega) h
        omega

theorem upTo3_len : ∀ l : List UInt8, (upTo3 l).2.length ≤ l.length
  | [] => Nat.le_refl _
  | c :: r => by
    rw [upTo3_cons]
    split
    · show ((c :: r).drop 3).length ≤ _
      rw [List.length_drop]
      omega
    · have := upTo3_len r
      show (upTo3 r).2.length ≤ r.length + 1
      omega
theorem upTo1_len (l : List UInt8) : (upTo1 l).2.length ≤ l.length := by
  have := drop_len (neC 62) l
  show ((l.dropWhile (neC 62)).drop 1).length ≤ _
  rw [List.length_drop]
  omega
theorem slashB_len : ∀ l : List UInt8, (slashB l).2.length ≤ l.length
  | [] => Nat.le_refl _
  | d :: r => by
    have h := upTo1_len (d :: r)
    rw [slashB_cons]
    split
    · show r.length ≤ r.length + 1; omega
    · split
      · split
        · exact h
        · exact Nat.zero_le _
      · exact h
theorem starts_form {l : List UInt8} (h : startsB l = true) : ∃ c r, l = 60 :: c :: r ∧ (letC c = true ∨ c = 33 ∨ c = 63 ∨ c = 47) := by
  match l, h with
  | a :: c :: r, h =>
    simp only [startsB, Bool.and_eq_true, Bool.or_eq_true, decide_eq_true_eq] at h
    obtain ⟨rfl, h⟩ := h
    exact ⟨c, r, rfl, by rcases h with ((h | h) | h) | h <;> simp [h]⟩
theorem pre_form3 {l : List UInt8} {a b c : UInt8} (h : Lib.hasPrefix l [a, b, c] = true) : ∃ t, l = a :: b :: c :: t := by
  unfold Lib.hasPrefix at h
  rw [List.isPrefixOf_iff_prefix] at h
  obtain ⟨t, rfl⟩ := h
  exact ⟨t, rfl⟩
theorem tagB_len {l : List UInt8} (h : startsB l = true) : (tagB l).2.length < l.length := by
  obtain ⟨c, r, rfl, _⟩ := starts_form h
  cases hl : letC c with
  | true =>
    rw [tagB_letter hl]
    cases ha : attsOf [] ((c :: r).dropWhile tagC) with
    | none => exact Nat.succ_pos _
    | some x =>
      have h1 := attsOf_len _ _ _ x (Nat.le_refl _) ha
      have h2 := drop_len tagC (c :: r)
      show x.2.length < _
      rw [List.length_cons] at h2 ⊢
      rw [List.length_cons]
      omega
  | false =>
    cases hp : Lib.hasPrefix (c :: r) [33, 45, 45] with
    | true =>
      obtain ⟨t, ht⟩ := pre_form3 hp
      injection ht with h1 h2
      subst h1
      subst h2
      rw [tagB_remark]
      have := upTo3_len t
      show (upTo3 t).2.length < _
      simp only [List.length_cons]
      omega
    | false =>
      by_cases h4 : c = 47
      · subst h4
        rw [tagB_slash]
        have := slashB_len r
        simp only [List.length_cons]
        omega
      · rw [tagB_other hl hp h4]
        have := upTo1_len r
        show (upTo1 r).2.length < _
        simp only [List.length_cons]
        omega
theorem cutEnd_len (nm : List UInt8) : ∀ l : List UInt8, (cutEnd nm l).2.length ≤ l.length
  | [] => Nat.le_refl _
  | c :: r => by
    rw [cutEnd_cons]
    split
    · exact Nat.le_refl _
    · have := cutEnd_len nm r
      show (cutEnd nm r).2.length ≤ r.length + 1
      omega
theorem cutEnd_app (nm : List UInt8) : ∀ l : List UInt8, (cutEnd nm l).1 ++ (cutEnd nm l).2 = l
  | [] => rfl
  | c :: r => by
    rw [cutEnd_cons]
    split
    · rfl
    · show c :: ((cutEnd nm r).1 ++ (cutEnd nm r).2) = _
      rw [cutEnd_app nm r]
theorem charsB_len : ∀ l : List UInt8, (charsB l).2.length ≤ l.length
  | [] => Nat.le_refl _
  | c :: r => by
    rw [charsB_cons]
    split
    · exact Nat.le_refl _
    · have := charsB_len r
      show (charsB r).2.length ≤ r.length + 1
      omega
theorem charsB_less {c : UInt8} {r : List UInt8} (h : startsB (c :: r) = false) : (charsB (c :: r)).2.length < (c :: r).length := by
  rw [charsB_cons, if_neg (by rw [h]; decide)]
  have := charsB_len r
  show (charsB r).2.length < r.length + 1
  omega

/-! ### step by step -/
theorem tokB_nil : tokB [] = [] := by unfold tokB; rfl
theorem tokB_chars {c : UInt8} {r : List UInt8} (h : startsB (c :: r) = false) : tokB (c :: r) = tkC (decB (charsB (c :: r)).1) :: tokB (charsB (c :: r)).2 := by
  conv => lhs; unfold tokB
  rw [if_neg (by rw [h]; decide)]
  exact dif_pos (charsB_less h)
theorem tokB_none {l : List UInt8} (h : startsB l = true) (ht : (tagB l).1 = none) : tokB l = tokB (tagB l).2 := by
  have hl := tagB_len h
  cases l with
  | nil => cases h
  | cons c r =>
    conv => lhs; unfold tokB
    rw [if_pos h, dif_pos hl, ht]
theorem tokB_tag {l : List UInt8} {k : Tk} (h : startsB l = true) (ht : (tagB l).1 = some k) (hr : rawTk k = false) : tokB l = k :: tokB (tagB l).2 := by
  have hl := tagB_len h
  cases l with
  | nil => cases h
  | cons c r =>
    conv => lhs; unfold tokB
    rw [if_pos h, dif_pos hl, ht]
    show (if rawTk k = true then _ else _) = _
    rw [if_neg (by rw [hr]; decide)]
theorem tokB_raw {l : List UInt8} {k : Tk} (h : startsB l = true) (ht : (tagB l).1 = some k) (hr : rawTk k = true) :
    tokB l = k :: (rawBody (cutEnd k.name.data.toList (tagB l).2).1 ++ tokB (cutEnd k.name.data.toList (tagB l).2).2) := by
  have hl := tagB_len h
  cases l with
  | nil => cases h
  | cons c r =>
    conv => lhs; unfold tokB
    rw [if_pos h, dif_pos hl, ht]
    show (if rawTk k = true then _ else _) = _
    rw [if_pos hr]
    exact dif_pos (cutEnd_len _ _)

end Go.Proofs.Ytoidjkkjnhnbhaa

/- Part GoodM. -/
namespace Go.Proofs.Ytoidjkkjnhnbhaa
set_option linter.unusedVariables false

/-- Attributes may be: names that are such, unlike one another, right values. -/
def attrsOK (l : List (ByteArray × ByteArray)) : Prop := (∀ a ∈ l, attrB a.1.data.toList = true ∧ isB a.2.data.toList = true) ∧ l.Pairwise (fun a b => a.1 ≠ b.1)
/-- A node may be, but for its kids and what stands beside it. -/
def nodeOK (n : Nd) : Prop :=
  (n.kind = 1 ∧ namedB n.name.data.toList = true ∧ n.text.data.toList = [] ∧ attrsOK n.attrs) ∨
  ((n.kind = 2 ∨ n.kind = 3) ∧ n.name.data.toList = [] ∧ n.attrs = [] ∧ n.kids = [] ∧ isB n.text.data.toList = true)
/-- No text is empty, and no two stand side by side; b: does a text stand ahead? -/
def sides : Bool → List Nd → Prop
  | _, [] => True
  | b, n :: l => (n.kind = 2 → n.text.data.toList ≠ [] ∧ b = false) ∧ sides (n.kind == 2) l
/-- Nodes may be. -/
inductive GoodL : List Nd → Prop
  | mk (l : List Nd) (h : ∀ n ∈ l, nodeOK n) (hs : sides false l) (hk : ∀ n ∈ l, GoodL n.kids) : GoodL l

theorem GoodL.nodes {l : List Nd} (h : GoodL l) : ∀ n ∈ l, nodeOK n := by cases h; assumption
theorem GoodL.sides_ {l : List Nd} (h : GoodL l) : sides false l := by cases h; assumption
theorem GoodL.kids {l : List Nd} (h : GoodL l) : ∀ n ∈ l, GoodL n.kids := by cases h; assumption
theorem GoodL.nil : GoodL [] := .mk [] (by simp) trivial (by simp)

theorem sides_snoc : ∀ (l : List Nd) (b : Bool) (n : Nd), sides b (l ++ [n]) ↔ sides b l ∧ (n.kind = 2 → n.text.data.toList ≠ [] ∧ (if l = [] then b else lastText l) = false)
  | [], b, n => by simp [sides]
  | x :: l, b, n => by
    rw [List.cons_append]
    simp only [sides]
    rw [sides_snoc l (x.kind == 2) n, and_assoc]
    have e : (if l = [] then (x.kind == 2) else lastText l) = lastText (x :: l) := by
      by_cases h : l = []
      · subst h; rw [if_pos rfl]; rfl
      · rw [if_neg h]
        obtain ⟨m, y, rfl⟩ := snoc_of (List.length_pos_iff.2 h)
        rw [lastText_snoc, ← List.cons_append, lastText_snoc]
    rw [e, if_neg (by simp)]

/-- Nodes that may be but for texts side by side, and empty ones. -/
def preOK (l : List Nd) : Prop := (∀ n ∈ l, nodeOK n) ∧ ∀ n ∈ l, GoodL n.kids

theorem right_app {a b : ByteArray} (ha : isB a.data.toList = true) (hb : isB b.data.toList = true) : isB (a ++ b).data.toList = true := by
  rw [ByteArray.data_append, Array.toList_append, ← right_of_isB ha, ← right_of_isB hb]
  exact isB_join _ _

theorem nodeOK_text {n : Nd} (h : nodeOK n) (hk : n.kind = 2) : n.name.data.toList = [] ∧ n.attrs = [] ∧ n.kids = [] ∧ isB n.text.data.toList = true := by
  rcases h with h | h
  · have := h.1; omega
  · exact ⟨h.2.1, h.2.2.1, h.2.2.2.1, h.2.2.2.2⟩

theorem mstep_good {out : List Nd} {n : Nd} (ho : GoodL out) (hn : nodeOK n) (hk : GoodL n.kids) : GoodL (mstep out n) := by
  unfold mstep
  split
  · exact ho
  · rename_i h1
    split
    · rename_i h2
      obtain ⟨hk2, hl⟩ := h2
      have hne : 0 < out.length := by
        rcases Nat.eq_zero_or_pos out.length with h0 | h0
        · have : out = [] := List.eq_nil_of_length_eq_zero h0
          subst this
          simp [lastText] at hl
        · exact h0
      obtain ⟨m, x, rfl⟩ := snoc_of hne
      rw [lastText_snoc] at hl
      have hx2 : x.kind = 2 := by simpa using hl
      have hx := nodeOK_text (ho.nodes x (by simp)) hx2
      have hn2 := nodeOK_text hn hk2
      have hs := ho.sides_
      rw [sides_snoc] at hs
      rw [mglue_snoc]
      refine .mk _ ?_ ?_ ?_
      · intro y hy
        rcases List.mem_append.1 hy with hy | hy
        · exact ho.nodes y (by simp [hy])
        · simp at hy
          subst hy
          exact .inr ⟨.inl hx2, hx.1, hx.2.1, hx.2.2.1, right_app hx.2.2.2 hn2.2.2.2⟩
      · rw [sides_snoc]
        refine ⟨hs.1, fun _ => ⟨?_, (hs.2 hx2).2⟩⟩
        have := (hs.2 hx2).1
        show (x.text ++ n.text).data.toList ≠ []
        rw [ByteArray.data_append, Array.toList_append]
        intro e
        exact this (List.append_eq_nil_iff.1 e).1
      · intro y hy
        rcases List.mem_append.1 hy with hy | hy
        · exact ho.kids y (by simp [hy])
        · simp at hy
          subst hy
          exact ho.kids x (by simp)
    · rename_i h2
      refine .mk _ ?_ ?_ ?_
      · intro y hy
        rcases List.mem_append.1 hy with hy | hy
        · exact ho.nodes y hy
        · simp at hy
          subst hy
          exact hn
      · rw [sides_snoc]
        refine ⟨ho.sides_, fun h => ⟨fun e => h1 ⟨h, e⟩, ?_⟩⟩
        split
        · rfl
        · cases hl : lastText out with
          | false => rfl
          | true => exact absurd ⟨h, hl⟩ h2
      · intro y hy
        rcases List.mem_append.1 hy with hy | hy
        · exact ho.kids y hy
        · simp at hy
          subst hy
          exact hk

theorem merge_good {l : List Nd} (h : preOK l) : GoodL (mergeB l) := by
  unfold mergeB
  have key : ∀ (l : List Nd) (out : List Nd), preOK l → GoodL out → GoodL (l.foldl mstep out) := by
    intro l
    induction l with
    | nil => intro out _ ho; exact ho
    | cons n l ih =>
      intro out hp ho
      rw [List.foldl_cons]
      exact ih _ ⟨fun x hx => hp.1 x (by simp [hx]), fun x hx => hp.2 x (by simp [hx])⟩ (mstep_good ho (hp.1 n (by simp)) (hp.2 n (by simp)))
  exact key l [] h GoodL.nil

end Go.Proofs.Ytoidjkkjnhnbhaa

/- Part BareM. -/
namespace Go.Proofs.Ytoidjkkjnhnbhaa
set_option linter.unusedVariables false

/-- Of what is written no byte is <, in a text or in a value. -/
theorem wr_no60 (v : Bool) (x : UInt8) : ∀ c ∈ wrC v x, c ≠ 60 := by
  unfold wrC
  by_cases h1 : x = 38
  · subst h1; cases v <;> decide
  by_cases h2 : x = 60
  · subst h2; cases v <;> decide
  by_cases h3 : x = 62
  · subst h3; cases v <;> decide
  by_cases h4 : x = 34 ∧ v = true
  · obtain ⟨h4, h5⟩ := h4
    subst h4
    subst h5
    decide
  have e : wrB v x = [] := by
    unfold wrB
    rw [if_neg h1, if_neg h2, if_neg h3, if_neg h4]
  rw [if_pos e]
  intro c hc
  simp at hc
  subst hc
  exact h2
theorem esc_no60 (v : Bool) (l : List UInt8) : (escB v l).count 60 = 0 := by
  rw [List.count_eq_zero]
  intro h
  unfold escB at h
  obtain ⟨x, _, hx⟩ := List.mem_flatMap.1 h
  exact wr_no60 v x 60 hx rfl

/-- Texts alone have none. -/
theorem texts_cnt : ∀ l : List Nd, (∀ q ∈ l, q.kind = 2) → (txtL false l).count 60 = 0
  | [], _ => by rw [txtL_nil]; rfl
  | n :: l, h => by
    have hk := h n (by simp)
    rw [txtL_cons, List.count_append, texts_cnt l (fun q hq => h q (List.mem_cons_of_mem _ hq)), txtN_eq, if_neg (by omega), if_pos hk, if_neg (by decide), esc_no60]
theorem atts_cnt : ∀ l : List (ByteArray × ByteArray), (∀ a ∈ l, (a.1.data.toList).count 60 = 0) → (l.flatMap attT).count 60 = 0
  | [], _ => rfl
  | a :: l, h => by
    rw [List.flatMap_cons, List.count_append, atts_cnt l (fun q hq => h q (List.mem_cons_of_mem _ hq))]
    unfold attT
    rw [List.count_cons_of_ne (by decide), List.count_append, h a (by simp), List.count_cons_of_ne (by decide), List.count_cons_of_ne (by decide), List.count_append, esc_no60]
    rfl
/-- An element of a name without <, attributes' names without <, texts alone for kids: two. -/
theorem elem_cnt {m : Nd} (h1 : m.kind = 1) (hn : m.name.data.toList.count 60 = 0) (hv : voidB m.name.data.toList = false) (hr : rawB m.name.data.toList = false) (ha : ∀ a ∈ m.attrs, (a.1.data.toList).count 60 = 0) (hk : ∀ q ∈ m.kids, q.kind = 2) :
    (txtN false m).count 60 = 2 := by
  have e1 : (openT m).count 60 = 1 := by
    unfold openT
    rw [List.count_cons_self, List.count_append, hn, List.count_append, atts_cnt _ ha]
    rfl
  have e2 : (closeT m).count 60 = 1 := by
    unfold closeT
    rw [List.count_cons_self, List.count_cons_of_ne (by decide), List.count_append, hn]
    rfl
  rw [txtN_eq, if_neg (by omega), if_neg (by omega), if_pos h1, hv, if_neg (by decide), hr, List.count_append, List.count_append, texts_cnt _ hk, e1, e2]
theorem list_cnt : ∀ l : List Nd, (∀ m ∈ l, (txtN false m).count 60 = 2) → (txtL false l).count 60 = 2 * l.length
  | [], _ => by rw [txtL_nil]; rfl
  | m :: l, h => by
    rw [txtL_cons, List.count_append, h m (by simp), list_cnt l (fun q hq => h q (List.mem_cons_of_mem _ hq)), List.length_cons]
    omega

end Go.Proofs.Ytoidjkkjnhnbhaa
