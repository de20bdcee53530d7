/- Parts of the proof, in build order: BldP BdI BdJ BdL. -/
import Derived.Test.YthmnnalamaponaaGreatK04
import Derived.Test.YthmnnalamaponaaGreatK22
import Derived.RegionTactic

/- Part BldP. -/
namespace Go.Proofs.YthmnnalamaponaaGreat
set_option linter.unusedVariables false
set_option linter.unusedSimpArgs false

def onKids (g : List Nd → List Nd) (n : Nd) : Nd := .mk n.kind n.name n.attrs n.text (g n.kids)
/-- The list at a path's end, changed. -/
def updL : List Nat → (List Nd → List Nd) → List Nd → List Nd
  | [], g, l => g l
  | k :: p, g, l => match l[k]? with
    | none => l
    | some n => l.set k (onKids (updL p g) n)
/-- The list at a path's end. -/
def endL : List Nat → List Nd → List Nd
  | [], l => l
  | k :: p, l => match l[k]? with
    | none => []
    | some n => endL p n.kids
/-- The names along a path. -/
def openL : List Nat → List Nd → List ByteArray
  | [], _ => []
  | k :: p, l => match l[k]? with
    | none => []
    | some n => n.name :: openL p n.kids
/-- A path that there is. -/
def okP : List Nat → List Nd → Prop
  | [], _ => True
  | k :: p, l => ∃ n, l[k]? = some n ∧ okP p n.kids

/-- Open elements, the outermost first, as nodes. -/
def clF (h : List Nd → List Nd) : List Fr → List Nd → List Nd
  | [], out => h out
  | f :: r, out => out ++ [.mk 1 f.name f.attrs (tB []) (clF h r f.kids)]
def pathF : List Fr → List Nd → List Nat
  | [], _ => []
  | f :: r, out => out.length :: pathF r f.kids
def innF : List Fr → List Nd → List Nd
  | [], out => out
  | f :: r, _ => innF r f.kids

theorem at_end (out : List Nd) (n : Nd) : (out ++ [n])[out.length]? = some n := by simp
theorem set_end (out : List Nd) (n m : Nd) : (out ++ [n]).set out.length m = out ++ [m] := by simp

theorem upd_cl (h g : List Nd → List Nd) : ∀ (r : List Fr) (out : List Nd), updL (pathF r out) g (clF h r out) = clF (fun x => g (h x)) r out
  | [], out => rfl
  | f :: r, out => by
    show updL (out.length :: pathF r f.kids) g (out ++ [_]) = _
    unfold updL
    rw [at_end]
    show (out ++ [_]).set out.length (onKids _ (.mk 1 f.name f.attrs (tB []) (clF h r f.kids))) = _
    rw [set_end]
    show out ++ [.mk 1 f.name f.attrs (tB []) (updL (pathF r f.kids) g (clF h r f.kids))] = _
    rw [upd_cl h g r f.kids]
    rfl
theorem end_cl (h : List Nd → List Nd) : ∀ (r : List Fr) (out : List Nd), endL (pathF r out) (clF h r out) = h (innF r out)
  | [], out => rfl
  | f :: r, out => by
    show endL (out.length :: pathF r f.kids) (out ++ [_]) = _
    unfold endL
    rw [at_end]
    exact end_cl h r f.kids
theorem open_cl (h : List Nd → List Nd) : ∀ (r : List Fr) (out : List Nd), openL (pathF r out) (clF h r out) = r.map Fr.name
  | [], out => rfl
  | f :: r, out => by
    show openL (out.length :: pathF r f.kids) (out ++ [_]) = _
    unfold openL
    rw [at_end]
    show f.name :: openL (pathF r f.kids) (clF h r f.kids) = _
    rw [open_cl h r f.kids]
    rfl
theorem ok_cl (h : List Nd → List Nd) : ∀ (r : List Fr) (out : List Nd), okP (pathF r out) (clF h r out)
  | [], out => trivial
  | f :: r, out => ⟨_, at_end _ _, ok_cl h r f.kids⟩
theorem cl_snoc (h : List Nd → List Nd) (f : Fr) : ∀ (r : List Fr) (out : List Nd), clF h (r ++ [f]) out = clF (fun x => x ++ [.mk 1 f.name f.attrs (tB []) (h f.kids)]) r out
  | [], out => rfl
  | g :: r, out => by
    show out ++ [.mk 1 g.name g.attrs (tB []) (clF h (r ++ [f]) g.kids)] = _
    rw [cl_snoc h f r g.kids]
    rfl
theorem path_snoc (f : Fr) : ∀ (r : List Fr) (out : List Nd), pathF (r ++ [f]) out = pathF r out ++ [(innF r out).length]
  | [], out => rfl
  | g :: r, out => by
    show out.length :: pathF (r ++ [f]) g.kids = _
    rw [path_snoc f r g.kids]
    rfl
theorem path_len : ∀ (r : List Fr) (out : List Nd), (pathF r out).length = r.length
  | [], out => rfl
  | f :: r, out => by
    show (pathF r f.kids).length + 1 = _
    rw [path_len r f.kids]
    rfl

def pathB (s : Bst) : List Nat := pathF s.fs.reverse s.out
def idL (x : List Nd) : List Nd := x
theorem mstep_elt (l : List Nd) {n : Nd} (h : n.kind = 1) : mstep l n = l ++ [n] := mstep_app fun h2 => by rw [h] at h2; cases h2
theorem nodes_cl : ∀ (fs : List Fr) (out : List Nd), nodesB ⟨fs, out⟩ = clF idL fs.reverse out := by
  intro fs
  have key : ∀ (n : Nat) (fs : List Fr), fs.length = n → ∀ out, nodesB ⟨fs, out⟩ = clF idL fs.reverse out := by
    intro n
    induction n with
    | zero =>
      intro fs hl out
      have : fs = [] := List.length_eq_zero_iff.1 hl
      subst this
      rfl
    | succ n ih =>
      intro fs hl out
      match fs, hl with
      | [f], hl =>
        show mstep out (nodeOf f) = _
        rw [mstep_elt _ (by rfl)]
        rfl
      | f :: g :: gs, hl =>
        have h1 : nodesB ⟨f :: g :: gs, out⟩ = nodesB ⟨⟨g.name, g.attrs, mstep g.kids (nodeOf f)⟩ :: gs, out⟩ := rfl
        rw [h1, ih (⟨g.name, g.attrs, mstep g.kids (nodeOf f)⟩ :: gs) (by simpa using hl) out, List.reverse_cons, cl_snoc, List.reverse_cons, List.reverse_cons, cl_snoc, cl_snoc, mstep_elt _ (by rfl)]
        rfl
  exact key fs.length fs rfl
theorem nodes_cl' (s : Bst) : nodesB s = clF idL s.fs.reverse s.out := nodes_cl s.fs s.out
theorem nodes_pop (s : Bst) : nodesB (popB s) = nodesB s := by
  obtain ⟨fs, out⟩ := s
  cases fs with
  | nil => rfl
  | cons f fs =>
    show (popN (popB ⟨f :: fs, out⟩).fs.length (popB ⟨f :: fs, out⟩)).out = (popN fs.length (popB ⟨f :: fs, out⟩)).out
    have h := congrArg List.length (pop_names ⟨f :: fs, out⟩)
    rw [List.length_map, List.length_drop, List.length_map] at h
    rw [h]
    rfl
theorem nodes_popN : ∀ (n : Nat) (s : Bst), nodesB (popN n s) = nodesB s
  | 0, s => rfl
  | n + 1, s => by rw [show popN (n + 1) s = popN n (popB s) from rfl, nodes_popN n, nodes_pop]
theorem nodes_add (s : Bst) (n : Nd) : nodesB (addTo s n) = updL (pathB s) (mstep · n) (nodesB s) := by
  obtain ⟨fs, out⟩ := s
  rw [nodes_cl' ⟨fs, out⟩]
  unfold pathB
  rw [upd_cl]
  cases fs with
  | nil => rfl
  | cons f fs =>
    show nodesB ⟨⟨f.name, f.attrs, mstep f.kids n⟩ :: fs, out⟩ = clF _ (f :: fs).reverse out
    rw [nodes_cl, List.reverse_cons, cl_snoc, List.reverse_cons, cl_snoc]
    rfl
theorem path_add (s : Bst) (n : Nd) : pathB (addTo s n) = pathB s := by
  obtain ⟨fs, out⟩ := s
  cases fs with
  | nil => rfl
  | cons f fs =>
    show pathF (⟨f.name, f.attrs, mstep f.kids n⟩ :: fs).reverse out = pathF (f :: fs).reverse out
    rw [List.reverse_cons, path_snoc, List.reverse_cons, path_snoc]
theorem nodes_new (s : Bst) (nm : ByteArray) (at_ : List (ByteArray × ByteArray)) : nodesB ⟨⟨nm, at_, []⟩ :: s.fs, s.out⟩ = updL (pathB s) (mstep · (.mk 1 nm at_ (tB []) [])) (nodesB s) := by
  rw [nodes_cl, nodes_cl' s]
  unfold pathB
  rw [upd_cl, List.reverse_cons, cl_snoc]
  congr 1
theorem path_new (s : Bst) (nm : ByteArray) (at_ : List (ByteArray × ByteArray)) : pathB ⟨⟨nm, at_, []⟩ :: s.fs, s.out⟩ = pathB s ++ [(endL (pathB s) (nodesB s)).length] := by
  rw [nodes_cl' s]
  unfold pathB
  rw [end_cl, List.reverse_cons, path_snoc]
  try rfl
theorem opens_of (s : Bst) : openL (pathB s) (nodesB s) = s.fs.reverse.map Fr.name := by
  rw [nodes_cl' s]
  exact open_cl _ _ _
theorem ok_of (s : Bst) : okP (pathB s) (nodesB s) := by
  rw [nodes_cl' s]
  exact ok_cl _ _ _
theorem pathB_len (s : Bst) : (pathB s).length = s.fs.length := by
  unfold pathB
  rw [path_len, List.length_reverse]
theorem path_pop (s : Bst) : pathB (popB s) = (pathB s).take (s.fs.length - 1) := by
  obtain ⟨fs, out⟩ := s
  cases fs with
  | nil => rfl
  | cons f fs =>
    show pathB (addTo ⟨fs, out⟩ (nodeOf f)) = _
    rw [path_add]
    unfold pathB
    show pathF fs.reverse out = (pathF (f :: fs).reverse out).take _
    rw [List.reverse_cons, path_snoc, List.take_append_of_le_length (by rw [path_len, List.length_reverse]; simp), List.take_of_length_le (by rw [path_len, List.length_reverse]; simp)]
theorem pop_length (s : Bst) : (popB s).fs.length = s.fs.length - 1 := by
  have h := congrArg List.length (pop_names s)
  rwa [List.length_map, List.length_drop, List.length_map] at h
theorem path_popN : ∀ (n : Nat) (s : Bst), pathB (popN n s) = (pathB s).take (s.fs.length - n)
  | 0, s => by
    show pathB s = _
    rw [List.take_of_length_le (by rw [pathB_len]; omega)]
  | n + 1, s => by
    rw [show popN (n + 1) s = popN n (popB s) from rfl, path_popN n, path_pop, List.take_take, pop_length]
    congr 1
    omega

/-- Glueing an empty text changes nothing. -/
theorem mstep_glue (l : List Nd) (n : Nd) (h : n.kind = 2) (hl : lastText l = true) : mstep l n = mglue l n.text := by
  unfold mstep
  by_cases h0 : n.text.data.toList = []
  · rw [if_pos ⟨h, h0⟩]
    obtain ⟨m, x, rfl⟩ := snoc_of (l := l) (by cases l with | nil => simp [lastText] at hl | cons a l => simp)
    rw [mglue_snoc]
    have e : n.text = tB [] := tB_eq h0
    have e2 : x.text ++ n.text = x.text := by
      rw [e]
      exact ByteArray.append_empty
    rw [e2]
    cases x
    rfl
  · rw [if_neg (fun hh => h0 hh.2), if_pos ⟨h, hl⟩]

theorem tw_count {α : Type} (p : α → Bool) : ∀ (l : List α) (j : Nat), j ≤ l.length → (∀ i x, i < j → l[i]? = some x → p x = true) → (∀ x, l[j]? = some x → p x = false) → (l.takeWhile p).length = j
  | [], j, hj, _, _ => by simp at hj; subst hj; rfl
  | a :: l, 0, _, _, h => by
    have := h a rfl
    simp [List.takeWhile, this]
  | a :: l, j + 1, hj, h1, h2 => by
    have h0 := h1 0 a (by omega) rfl
    rw [List.takeWhile_cons, h0, if_pos rfl, List.length_cons]
    rw [tw_count p l j (by simpa using hj) (fun i x hi hx => h1 (i + 1) x (by omega) (by simpa using hx)) (fun x hx => h2 x (by simpa using hx))]

end Go.Proofs.YthmnnalamaponaaGreat

/- Part BdI. -/
namespace Go.Proofs.YthmnnalamaponaaGreat
open Go.RowKit
set_option linter.unusedVariables false

/-! ### parts -/
/-- An open element: where it lies; its kids that are closed. -/
structure Fm where
  g : Nat
  name : ByteArray
  attrs : List (ByteArray × ByteArray)
  va : Value
  vk : Value
  R : List Rp
def Fm.rp (f : Fm) (x : List Nd) : Rp := ⟨.mk 1 f.name f.attrs ⟨#[]⟩ (f.R.map Rp.n ++ x), f.g, f.va, f.vk, ⟨#[]⟩, .slice none 0 0, []⟩
/-- A text that may still grow. -/
structure Tl where
  g : Nat
  pre : ByteArray
  bp : Value
  bv : Value
  mo : List UInt8
def Tl.rp (t : Tl) : Rp := ⟨.mk 2 ⟨#[]⟩ [] (t.pre ++ ⟨t.mo.toArray⟩) [], t.g, .slice none 0 0, .slice none 0 0, t.pre, t.bv, t.mo⟩

/-- Blocks that stay, but for what may not be written any more. -/
def Same1 (w w' : World) (b : Nat) : Prop := w'.heap[b]? = w.heap[b]? ∨ ∃ cur fz fz', w.heap[b]? = some (.cells cur 5 fz) ∧ w'.heap[b]? = some (.cells cur 5 fz')
theorem Same1.cell {w w' : World} {p : Addr} (h : Same1 w w' p.block) : w'.cell? p = w.cell? p := by
  rcases h with e | ⟨cur, fz, fz', e1, e2⟩
  · exact World.cell?_of_block e
  · unfold World.cell?
    rw [e1, e2]
theorem Same1.heap {w w' : World} {b : Nat} {o : Obj} (h : Same1 w w' b) (hb : w.heap[b]? = some o) (ho : ∀ c fz, o ≠ .cells c 5 fz) : w'.heap[b]? = some o := by
  rcases h with e | ⟨cur, fz, fz', e1, _⟩
  · exact e.trans hb
  · rw [hb] at e1
    injection e1 with e1
    exact absurd e1 (ho _ _)
theorem Calm.same1 {F : Nat → Nat → Prop} {w w' : World} (h : Calm F w w') {b : Nat} (hb : b < w.heap.size) : Same1 w w' b := (h.blk b hb).imp id fun ⟨cur, fz, fz', m, e1, e2, _⟩ => ⟨cur, fz, fz', e1, e2⟩
/-- What is closed lies in blocks of Q. -/
def inQ (Q : Nat → Prop) : Nat → Nat → Prop := fun k _ => Q k
theorem keptB_same {Q : Nat → Prop} {w w' : World} (h : ∀ b, Q b → Same1 w w' b) : KeptB Q (inQ Q) w w' := ⟨fun b hb j => (h b hb).cell (p := ⟨b, j, none⟩), fun k m hk => h k hk⟩

/-- A row of pointers of the builder's own. -/
structure RowA (lo : Nat) (P : Nat → Prop) (w : World) (v : Value) (gs : List Nat) : Prop where
  own : w.ownsRow lo 174 1 v gs.length (gs.map pcell)
  inP : ∀ b, v.ownBlock = some b → P b
theorem ownsRow_same {w w' : World} {lo size n : Nat} {e : TypeId} {v : Value} {xs : List Value} (h : w.ownsRow lo e size v n xs) (he : e ≠ 5) (hs : ∀ b, v.ownBlock = some b → Same1 w w' b) : w'.ownsRow lo e size v n xs := by
  refine ⟨h.1, ?_⟩
  rcases h.2 with h | ⟨g, cap, cur, hv, hg, hh, r⟩
  · exact .inl h
  · exact .inr ⟨g, cap, cur, hv, hg, (hs g (by rw [hv]; rfl)).heap hh fun c fz e' => by injection e' with _ e'; exact he e', r⟩
theorem RowA.keep {lo : Nat} {P : Nat → Prop} {w w' : World} {v : Value} {gs : List Nat} (h : RowA lo P w v gs) (hs : ∀ b, P b → Same1 w w' b) : RowA lo P w' v gs :=
  ⟨ownsRow_same h.own (by decide) fun b hb => hs b (h.inP b hb), h.inP⟩
theorem RowA.mono {lo : Nat} {P P' : Nat → Prop} {w : World} {v : Value} {gs : List Nat} (h : RowA lo P w v gs) (hp : ∀ b, P b → P' b) : RowA lo P' w v gs := ⟨h.own, fun b hb => hp b (h.inP b hb)⟩
theorem RowA.type {lo : Nat} {P : Nat → Prop} {w : World} {v : Value} {gs : List Nat} (h : RowA lo P w v gs) {b : Nat} (hb : v.ownBlock = some b) : lo ≤ b ∧ ∃ cur, w.heap[b]? = some (.cells cur 174 (0, 0)) := by
  rcases h.own.2 with ⟨hv, _⟩ | ⟨g, cap, cur, hv, hg, hh, _⟩
  · rw [hv] at hb; cases hb
  · rw [hv] at hb
    injection hb with hb
    subst hb
    exact ⟨hg, cur, hh⟩
theorem RowA.cells {lo : Nat} {P : Nat → Prop} {w : World} {v : Value} {gs : List Nat} (h : RowA lo P w v gs) : ∃ A c, v = .slice A gs.length c ∧ gs.length ≤ c ∧ Cells P w A (gs.map pcell) := by
  obtain ⟨A, c, rfl, hc⟩ := own_size h.own
  exact ⟨A, c, rfl, hc, (Cells.own h.own).mono fun b hb => h.inP b hb⟩

def fmBlk (f : Fm) : Array Value := #[.int .i64 1, .string f.name, f.va, .string ⟨#[]⟩, .pointer none, .slice none 0 0, f.vk]
/-- The open elements, the innermost first, and what stands outside (R0, its row vk0): their own blocks are of P, all different; inn is what stands in the innermost one behind what is closed. -/
def FsAt (lo : Nat) (Q : Nat → Prop) (w : World) (R0 : List Rp) (vk0 : Value) : (Nat → Prop) → List Nat → List Fm → Prop
  | P, inn, [] => RowA lo P w vk0 (R0.map Rp.g ++ inn) ∧ ∀ r ∈ R0, POne Q (inQ Q) w r
  | P, inn, f :: fs => P f.g ∧ w.heap[f.g]? = some (.cells (fmBlk f) 166 (0, 0)) ∧ AttrsAt Q w f.attrs f.va ∧ RowA lo P w f.vk (f.R.map Rp.g ++ inn) ∧ (∀ r ∈ f.R, POne Q (inQ Q) w r) ∧
      FsAt lo Q w R0 vk0 (fun b => P b ∧ b ≠ f.g ∧ f.vk.ownBlock ≠ some b) [f.g] fs
theorem FsAt.keep {lo : Nat} {Q : Nat → Prop} {w w' : World} {R0 : List Rp} {vk0 : Value} (hQ : ∀ b, Q b → Same1 w w' b) : ∀ {fs : List Fm} {P : Nat → Prop} {inn : List Nat}, FsAt lo Q w R0 vk0 P inn fs → (∀ b, P b → Same1 w w' b) → FsAt lo Q w' R0 vk0 P inn fs
  | [], P, inn, ⟨h1, h2⟩, hP => ⟨h1.keep hP, fun r hr => (h2 r hr).keep (keptB_same hQ)⟩
  | f :: fs, P, inn, ⟨h1, h2, h3, h4, h5, h6⟩, hP =>
    ⟨h1, (hP _ h1).heap h2 fun c fz e => by injection e with _ e; exact absurd e (by decide), h3.keep (keptB_same hQ).cell, h4.keep hP, fun r hr => (h5 r hr).keep (keptB_same hQ), FsAt.keep hQ h6 fun b hb => hP b hb.1⟩
theorem FsAt.mono {lo : Nat} {Q Q' : Nat → Prop} {w : World} {R0 : List Rp} {vk0 : Value} (hQ : ∀ b, Q b → Q' b) : ∀ {fs : List Fm} {P P' : Nat → Prop} {inn : List Nat}, FsAt lo Q w R0 vk0 P inn fs → (∀ b, P b → P' b) → FsAt lo Q' w R0 vk0 P' inn fs
  | [], P, P', inn, ⟨h1, h2⟩, hP => ⟨h1.mono hP, fun r hr => (h2 r hr).mono hQ fun k _ h => hQ k h⟩
  | f :: fs, P, P', inn, ⟨h1, h2, h3, h4, h5, h6⟩, hP =>
    ⟨hP _ h1, h2, h3.mono hQ, h4.mono hP, fun r hr => (h5 r hr).mono hQ fun k _ h => hQ k h, FsAt.mono hQ h6 fun b hb => ⟨hP b hb.1, hb.2⟩⟩

/-! ### all of it, as nodes -/
def clsL : List Fm → List Nd → List Nd → List Nd
  | [], x, out => out ++ x
  | f :: fs, x, out => clsL fs [(f.rp x).n] out
theorem fm_cells {w : World} {f : Fm} (h : w.heap[f.g]? = some (.cells (fmBlk f) 166 (0, 0))) (x : List Nd) : NdAt w (f.rp x) :=
  ⟨cell_at h 0, cell_at h 1, cell_at h 2, cell_at h 3, cell_at h 5, cell_at h 6⟩
/-- An open element, where it is looked at as a node. -/
theorem fm_one {lo : Nat} {T P : Nat → Prop} {F : Nat → Nat → Prop} {w : World} {f : Fm} {ri : List Rp} (hg : T f.g) (hb : w.heap[f.g]? = some (.cells (fmBlk f) 166 (0, 0))) (ha : AttrsAt T w f.attrs f.va)
    (hr : RowA lo P w f.vk (f.R.map Rp.g ++ ri.map Rp.g)) (hP : ∀ b, f.vk.ownBlock = some b → T b) (h1 : ∀ r ∈ f.R, POne T F w r) (h2 : ∀ r ∈ ri, POne T F w r) : POne T F w (f.rp (ri.map Rp.n)) := by
  refine ⟨hg, fm_cells hb _, .elem rfl rfl, ha, ?_⟩
  obtain ⟨A, c, hv, hc⟩ := own_size hr.own
  have ho := hr.own
  rw [← List.map_append] at ho hc hv
  have hcl := Cells.own (hv ▸ ho)
  rw [List.map_map] at hcl
  have := PTree.of (S := T) (F := F) (w := w) (f.R ++ ri) A ((f.R ++ ri).map Rp.g).length c (by rw [List.length_map]) (by rw [List.length_map] at hc; exact hc) (hcl.mono fun b hb => hP b (by rw [hv]; exact hb)) (fun r hr => by
    rcases List.mem_append.1 hr with h | h
    · exact h1 r h
    · exact h2 r h)
  rw [← hv, List.map_append] at this
  exact this
theorem FsAt.tree {lo : Nat} {Q T : Nat → Prop} {F : Nat → Nat → Prop} {w : World} {R0 : List Rp} {vk0 : Value} (hQ : ∀ b, Q b → T b) (hF : ∀ k m, Q k → F k m) :
    ∀ {fs : List Fm} {P : Nat → Prop} {ri : List Rp}, FsAt lo Q w R0 vk0 P (ri.map Rp.g) fs → (∀ b, P b → T b) → (∀ r ∈ ri, POne T F w r) → PTree T F w (clsL fs (ri.map Rp.n) (R0.map Rp.n)) vk0
  | [], P, ri, ⟨h1, h2⟩, hP, hr => by
    obtain ⟨A, c, hv, hc⟩ := own_size h1.own
    have ho := h1.own
    rw [← List.map_append] at ho hc hv
    have hcl := Cells.own (hv ▸ ho)
    rw [List.map_map] at hcl
    have := PTree.of (S := T) (F := F) (w := w) (R0 ++ ri) A ((R0 ++ ri).map Rp.g).length c (by rw [List.length_map]) (by rw [List.length_map] at hc; exact hc) (hcl.mono fun b hb => hP b (h1.inP b (by rw [hv]; exact hb))) (fun r h => by
      rcases List.mem_append.1 h with h | h
      · exact (h2 r h).mono hQ fun k m hk => hF k m hk
      · exact hr r h)
    rw [← hv, List.map_append] at this
    exact this
  | f :: fs, P, ri, ⟨h1, h2, h3, h4, h5, h6⟩, hP, hr => by
    have hone : POne T F w (f.rp (ri.map Rp.n)) := fm_one (hP _ h1) h2 (h3.mono hQ) h4 (fun b hb => hP b (h4.inP b hb)) (fun r hr => (h5 r hr).mono hQ fun k m hk => hF k m hk) hr
    have := FsAt.tree (T := T) (F := F) hQ hF (fs := fs) (ri := [f.rp (ri.map Rp.n)]) h6 (fun b hb => hP b hb.1) (fun r h => by simp at h; subst h; exact hone)
    exact this

/-! ### as the document has it -/
def frOf (f : Fm) (x : List Nd) : Fr := ⟨f.name, f.attrs, f.R.map Rp.n ++ x⟩
def frsOf (fs : List Fm) : List Fr := fs.map fun f => frOf f []
def bstOf : List Fm → List Nd → List Nd → Bst
  | [], x, out => ⟨[], out ++ x⟩
  | f :: fs, x, out => ⟨frOf f x :: frsOf fs, out⟩
theorem nodeOf_fr (f : Fm) (x : List Nd) : nodeOf (frOf f x) = (f.rp x).n := rfl
/-- An open element that is closed is the last of the one ahead of it. -/
def close1 (f : Fm) (x : List Nd) : List Fm → Nat → List Fm
  | [], _ => []
  | h :: fs, _ => { h with R := h.R ++ [f.rp x] } :: fs
theorem addTo_0 (out : List Nd) (n : Nd) : addTo ⟨[], out⟩ n = ⟨[], mstep out n⟩ := rfl
theorem addTo_1 (f : Fr) (fs : List Fr) (out : List Nd) (n : Nd) : addTo ⟨f :: fs, out⟩ n = ⟨⟨f.name, f.attrs, mstep f.kids n⟩ :: fs, out⟩ := rfl
theorem clsL_nodes : ∀ (fs : List Fm) (x out : List Nd), nodesB (bstOf fs x out) = clsL fs x out
  | [], x, out => rfl
  | f :: fs, x, out => by
    show nodesB ⟨frOf f x :: frsOf fs, out⟩ = clsL fs [(f.rp x).n] out
    rw [← nodes_pop, ← clsL_nodes fs]
    cases fs with
    | nil =>
      show nodesB (addTo ⟨[], out⟩ (nodeOf (frOf f x))) = _
      rw [addTo_0, mstep_elt _ (n := nodeOf (frOf f x)) rfl]
      rfl
    | cons h fs =>
      show nodesB (addTo ⟨frOf h [] :: frsOf fs, out⟩ (nodeOf (frOf f x))) = _
      rw [addTo_1, mstep_elt _ (n := nodeOf (frOf f x)) rfl]
      show nodesB ⟨⟨h.name, h.attrs, (h.R.map Rp.n ++ []) ++ [nodeOf (frOf f x)]⟩ :: frsOf fs, out⟩ = nodesB ⟨⟨h.name, h.attrs, h.R.map Rp.n ++ [(f.rp x).n]⟩ :: frsOf fs, out⟩
      rw [List.append_nil]
      rfl
theorem pop_bst (f h : Fm) (fs : List Fm) (x out : List Nd) : popB (bstOf (f :: h :: fs) x out) = bstOf ({ h with R := h.R ++ [f.rp x] } :: fs) [] out := by
  show addTo ⟨frOf h [] :: frsOf fs, out⟩ (nodeOf (frOf f x)) = ⟨⟨h.name, h.attrs, (h.R ++ [f.rp x]).map Rp.n ++ []⟩ :: frsOf fs, out⟩
  rw [addTo_1, mstep_elt _ (n := nodeOf (frOf f x)) rfl]
  show (⟨⟨h.name, h.attrs, (h.R.map Rp.n ++ []) ++ [(f.rp x).n]⟩ :: frsOf fs, out⟩ : Bst) = _
  rw [List.append_nil, List.append_nil, List.map_append]
  rfl
theorem pop_bst0 (f : Fm) (x : List Nd) (R0 : List Rp) : popB (bstOf [f] x (R0.map Rp.n)) = bstOf [] [] ((R0 ++ [f.rp x]).map Rp.n) := by
  show addTo ⟨[], R0.map Rp.n⟩ (nodeOf (frOf f x)) = ⟨[], (R0 ++ [f.rp x]).map Rp.n ++ []⟩
  rw [addTo_0, mstep_elt _ (n := nodeOf (frOf f x)) rfl, List.append_nil, List.map_append]
  rfl
theorem bst_names (fs : List Fm) (x out : List Nd) : (bstOf fs x out).fs.map Fr.name = fs.map Fm.name := by
  cases fs with
  | nil => rfl
  | cons f fs =>
    show f.name :: (frsOf fs).map Fr.name = f.name :: fs.map Fm.name
    unfold frsOf
    rw [List.map_map]
    rfl
theorem bst_len (fs : List Fm) (x out : List Nd) : (bstOf fs x out).fs.length = fs.length := by
  have := congrArg List.length (bst_names fs x out)
  rw [List.length_map, List.length_map] at this
  exact this
theorem bst_inner (fs : List Fm) (x : List Nd) (R0 : List Rp) : inner (bstOf fs x (R0.map Rp.n)) = (match fs with | [] => R0.map Rp.n | f :: _ => f.R.map Rp.n) ++ x := by
  cases fs <;> rfl

end Go.Proofs.YthmnnalamaponaaGreat

/- Part BdJ. -/
namespace Go.Proofs.YthmnnalamaponaaGreat
open Go.RowKit
set_option linter.unusedVariables false

structure Stt where
  a : Nat
  M : Nat
  n : Nat
  ov : Value
  vk0 : Value
  R0 : List Rp
  fs : List Fm
  tl : Option Tl
def bldBlk (s : Stt) : Array Value := #[.int .i64 0, .string ⟨#[]⟩, .slice none 0 0, .string ⟨#[]⟩, .pointer none, .slice none 0 0, s.vk0, s.ov, .map (some s.M)]
def cntF (fs : List Fm) (l : List UInt8) : Nat := (fs.filter fun f => decide (f.name.data.toList = l)).length
def Stt.tn (s : Stt) : List Nd := match s.tl with | none => [] | some t => [t.rp.n]
def Stt.tg (s : Stt) : List Nat := match s.tl with | none => [] | some t => [t.g]
def Stt.tr (s : Stt) : List Rp := match s.tl with | none => [] | some t => [t.rp]
theorem Stt.tr_n (s : Stt) : s.tr.map Rp.n = s.tn := by unfold Stt.tr Stt.tn; cases s.tl <;> rfl
theorem Stt.tr_g (s : Stt) : s.tr.map Rp.g = s.tg := by unfold Stt.tr Stt.tg; cases s.tl <;> rfl
def Stt.topG (s : Stt) : Nat := match s.fs with | [] => s.a | f :: _ => f.g
def Stt.topV (s : Stt) : Value := match s.fs with | [] => s.vk0 | f :: _ => f.vk
def Stt.topR (s : Stt) : List Rp := match s.fs with | [] => s.R0 | f :: _ => f.R
def Stt.withV (s : Stt) (v : Value) : Stt := match s.fs with | [] => { s with vk0 := v } | f :: fs => { s with fs := { f with vk := v } :: fs }
def Stt.push (s : Stt) (r : Rp) : Stt := match s.fs with | [] => { s with R0 := s.R0 ++ [r] } | f :: fs => { s with fs := { f with R := f.R ++ [r] } :: fs }
/-- The document's builder; x is what stands behind all that in the innermost element. -/
def Stt.bst (s : Stt) (x : List Nd) : Bst := bstOf s.fs (s.tn ++ x) (s.R0.map Rp.n)
theorem bst_push (s : Stt) (r : Rp) (h : s.tl = none) (x : List Nd) : (s.push r).bst x = s.bst (r.n :: x) := by
  obtain ⟨a, M, n, ov, vk0, R0, fs, tl⟩ := s
  simp only at h
  subst h
  cases fs with
  | nil => simp [Stt.push, Stt.bst, Stt.tn, bstOf]
  | cons f fs => simp [Stt.push, Stt.bst, Stt.tn, bstOf, frOf]
theorem bst_withV (s : Stt) (v : Value) (x : List Nd) : (s.withV v).bst x = s.bst x := by
  obtain ⟨a, M, n, ov, vk0, R0, fs, tl⟩ := s
  cases fs <;> rfl
/-- What a builder has of its own besides its elements. -/
def Stt.X (s : Stt) (b : Nat) : Prop := b = s.a ∨ b = s.M ∨ s.ov.ownBlock = some b ∨ ∃ t, s.tl = some t ∧ (b = t.g ∨ t.bv.ownBlock = some b)

def tlBlk (t : Tl) : Array Value := #[.int .i64 3, .string ⟨#[]⟩, .slice none 0 0, .string t.pre, t.bp, t.bv, .slice none 0 0]
structure TlAt (lo : Nat) (w : World) (t : Tl) : Prop where
  blk : w.heap[t.g]? = some (.cells (tlBlk t) 166 (0, 0))
  bp : t.bp = .pointer none ∨ t.bp = .pointer (some ⟨t.g, 4, none⟩)
  own : w.ownsRowF lo 5 1 t.bv t.mo.length (Lib.byteCells t.mo)
  ne : t.mo = [] → t.bv = .slice none 0 0

/-- A builder in memory, where gs stands behind all that in the innermost element: P is what its open elements have, Q is what is closed. -/
structure StAt (lo : Nat) (P Q : Nat → Prop) (s : Stt) (gs : List Nat) (w : World) : Prop where
  blk : w.heap[s.a]? = some (.cells (bldBlk s) 168 (0, 0))
  opn : w.ownsRow lo 174 1 s.ov s.fs.length (s.fs.reverse.map fun f => pcell f.g)
  cnt : CntAt w s.M s.n (cntF s.fs)
  frs : FsAt lo Q w s.R0 s.vk0 P (s.tg ++ gs) s.fs
  tl : ∀ t, s.tl = some t → TlAt lo w t
  pq : ∀ b, P b → ¬ Q b
  px : ∀ b, P b → ¬ s.X b
  qx : ∀ b, Q b → ¬ s.X b
  lo : ∀ b, P b ∨ Q b ∨ s.X b → lo ≤ b ∧ b < w.heap.size

/-- What may be frozen: not what is behind a growing text's bytes. -/
def Stt.F (s : Stt) (k m : Nat) : Prop := ∀ t, s.tl = some t → t.bv.ownBlock = some k → m ≤ t.mo.length
theorem ownsRowF_calm {s : Stt} {F : Nat → Nat → Prop} {w w' : World} {lo : Nat} {t : Tl} (hF : ∀ k m, F k m → s.F k m) (ht : s.tl = some t) (h : w.ownsRowF lo 5 1 t.bv t.mo.length (Lib.byteCells t.mo)) (hc : Calm F w w') : w'.ownsRowF lo 5 1 t.bv t.mo.length (Lib.byteCells t.mo) := by
  refine ⟨h.1, ?_⟩
  rcases h.2 with h | ⟨g, cap, cur, fz, hv, hg, hh, hfz, r⟩
  · exact .inl h
  · have hlt := (Array.getElem?_eq_some_iff.1 hh).1
    rcases hc.blk g hlt with e | ⟨cur', fz1, fz', m, e1, e2, e3, e4⟩
    · exact .inr ⟨g, cap, cur, fz, hv, hg, e.trans hh, hfz, r⟩
    · rw [hh] at e1
      injection e1 with e1
      injection e1 with e1 _ e1'
      subst e1
      subst e1'
      have := hF g m e3 t ht (by rw [hv]; rfl)
      exact .inr ⟨g, cap, cur, fz', hv, hg, e2, by omega, r⟩
theorem StAt.calm {lo : Nat} {P Q : Nat → Prop} {F : Nat → Nat → Prop} {s : Stt} {gs : List Nat} {w w' : World} (h : StAt lo P Q s gs w) (hc : Calm F w w') (hF : ∀ k m, F k m → s.F k m) : StAt lo P Q s gs w' := by
  have hs : ∀ b, P b ∨ Q b ∨ s.X b → Same1 w w' b := fun b hb => hc.same1 (h.lo b hb).2
  refine ⟨hc.same h.blk fun c fz e => by injection e with _ e; exact absurd e (by decide), ownsRow_same h.opn (by decide) fun b hb => hs b (.inr (.inr (.inr (.inr (.inl hb))))), ?_, h.frs.keep (fun b hb => hs b (.inr (.inl hb))) fun b hb => hs b (.inl hb), fun t ht => ?_, h.pq, h.px, h.qx, fun b hb => ?_⟩
  · obtain ⟨es, ck, hh⟩ := h.cnt.heap
    exact h.cnt.kept ((hc.same hh fun c fz e => by cases e).trans hh.symm)
  · have h1 := h.tl t ht
    exact ⟨hc.same h1.blk fun c fz e => by injection e with _ e; exact absurd e (by decide), h1.bp, ownsRowF_calm hF ht h1.own hc, h1.ne⟩
  · have := h.lo b hb
    have := hc.size
    exact ⟨by omega, by omega⟩
theorem StAt.below {lo : Nat} {P Q : Nat → Prop} {s : Stt} {gs : List Nat} {w w' : World} (h : StAt lo P Q s gs w) (hb : Below w.heap.size w w') : StAt lo P Q s gs w' :=
  h.calm (F := fun _ _ => False) (Calm.below hb) fun _ _ h => h.elim
theorem StAt.drewN {lo : Nat} {P Q : Nat → Prop} {s : Stt} {gs : List Nat} {w : World} (h : StAt lo P Q s gs w) (n : Nat) : StAt lo P Q s gs (w.drewN n) :=
  h.calm (F := fun _ _ => False) ⟨rfl, rfl, rfl, Nat.le_refl _, fun k _ => .inl rfl⟩ fun _ _ h => h.elim

/-! ### place -/
theorem topG_last (s : Stt) (h : 0 < s.fs.length) : (s.fs.reverse.map fun f => pcell f.g)[s.fs.length - 1]? = some (pcell s.topG) := by
  unfold Stt.topG
  cases hf : s.fs with
  | nil => rw [hf] at h; simp at h
  | cons f fs => simp

set_option maxHeartbeats 1000000 in
set_option maxRecDepth 100000 in
theorem place_any {lo : Nat} {P Q : Nat → Prop} {s : Stt} {gs : List Nat} {w : World} (h : StAt lo P Q s gs w) (hz : s.fs.length ≤ 100000000) :
    Calls Tryz.prog 186 #[.pointer (some ⟨s.a, 0, none⟩)] w fun e w' => e = .returned (.pointer (some ⟨s.topG, 0, none⟩)) ∧ ∃ n, w' = w.drewN n := by
  have mixed : Tryz.prog.follows Departure.mixedOrders = true := by kernel_rfl
  obtain ⟨A, c, hov, hc⟩ := own_size h.opn
  have c7 : w.cell? ⟨s.a, 7, none⟩ = some (.slice A s.fs.length c) := (cell_at h.blk 7).trans (by rw [← hov]; rfl)
  have hcl := Cells.own (hov ▸ h.opn)
  have htl := topG_last s
  have h0 : s.fs.length = 0 → s.topG = s.a := fun h0 => by unfold Stt.topG; rw [List.length_eq_zero_iff.1 h0]
  obtain ⟨a, ha⟩ : ∃ a, s.a = a := ⟨_, rfl⟩
  obtain ⟨m, hm⟩ : ∃ m, s.fs.length = m := ⟨_, rfl⟩
  obtain ⟨tg, htg⟩ : ∃ g, s.topG = g := ⟨_, rfl⟩
  rw [ha, htg] at h0
  rw [ha] at c7 ⊢
  rw [htg, hm] at htl
  rw [hm] at c7 h0 hz hc
  rw [htg]
  have hl : (s.fs.reverse.map fun f => pcell f.g).length = m := by simp [hm]
  rcases Nat.eq_zero_or_pos m with hm0 | hm0
  · have hta := h0 hm0
    subst hm0
    subst hta
    clear htl hcl h0 ha hm htg hl
    go_enter Tryz.func186, Tryz.ntmps186
    go_wp2_with fail
    go_ret
    exact ⟨rfl, 0, rfl⟩
  · obtain ⟨b, o, rfl, _, hx⟩ := hcl (by omega)
    obtain ⟨k, rfl⟩ : ∃ k, m = k + 1 := ⟨m - 1, by omega⟩
    have c8 : w.cell? ⟨b, o + k, none⟩ = some (.pointer (some ⟨tg, 0, none⟩)) := hx k _ (htl hm0)
    have c7' : w.drew.cell? ⟨a, 7, none⟩ = some (.slice (some ⟨b, o, none⟩) (k + 1) c) := c7
    have c8' : w.drew.cell? ⟨b, o + k, none⟩ = some (.pointer (some ⟨tg, 0, none⟩)) := c8
    have i1 : (k : Int) < ((k + 1 : Nat) : Int) := by omega
    have i2 : (0 : Int) ≤ (k : Int) := by omega
    clear htl hcl h0 hx ha hm htg hl hov h
    go_enter Tryz.func186, Tryz.ntmps186
    go_wp2_with fail
    go_region
    all_goals (go_wp2_with fail; go_ret; exact ⟨rfl, 1, rfl⟩)

end Go.Proofs.YthmnnalamaponaaGreat

/- Part BdL. -/
namespace Go.Proofs.YthmnnalamaponaaGreat
open Go.RowKit
set_option linter.unusedVariables false

/-! ### pushing -/
theorem push_gs (s : Stt) (r : Rp) : (s.push r).fs.reverse.map (fun f => pcell f.g) = s.fs.reverse.map (fun f => pcell f.g) := by
  unfold Stt.push
  cases hf : s.fs <;> simp
set_option maxRecDepth 100000 in
theorem push_len (s : Stt) (r : Rp) : (s.push r).fs.length = s.fs.length := by
  unfold Stt.push
  cases hf : s.fs <;> simp
set_option maxRecDepth 100000 in
theorem push_cnt (s : Stt) (r : Rp) : cntF (s.push r).fs = cntF s.fs := by
  funext l
  unfold Stt.push
  cases hf : s.fs with
  | nil => rfl
  | cons f fs =>
    simp only [cntF, List.filter_cons]
    split <;> simp
set_option maxRecDepth 100000 in
theorem push_X (s : Stt) (r : Rp) (b : Nat) : (s.push r).X b = s.X b := by
  unfold Stt.push Stt.X
  cases hf : s.fs <;> rfl
set_option maxRecDepth 100000 in
theorem push_a (s : Stt) (r : Rp) : (s.push r).a = s.a ∧ (s.push r).M = s.M ∧ (s.push r).n = s.n ∧ (s.push r).ov = s.ov ∧ (s.push r).tl = s.tl ∧ (s.push r).vk0 = s.vk0 ∧ (s.push r).topG = s.topG := by
  unfold Stt.push Stt.topG
  cases hf : s.fs <;> simp
set_option maxRecDepth 100000 in
theorem push_blk (s : Stt) (r : Rp) : bldBlk (s.push r) = bldBlk s := by
  unfold Stt.push bldBlk
  cases hf : s.fs <;> rfl
set_option maxRecDepth 100000 in
/-- The last of what is behind is closed. -/
theorem FsAt.push {lo : Nat} {Q Q' P : Nat → Prop} {w : World} {gs : List Nat} {s : Stt} (r : Rp) (h : FsAt lo Q w s.R0 s.vk0 P (r.g :: gs) s.fs) (hQ : ∀ b, Q b → Q' b) (hr : POne Q' (inQ Q') w r) :
    FsAt lo Q' w (s.push r).R0 (s.push r).vk0 P gs (s.push r).fs := by
  have h' := h.mono hQ (fun b hb => hb)
  obtain ⟨a, M, n, ov, vk0, R0, fs, tl⟩ := s
  cases fs with
  | nil =>
    obtain ⟨h1, h2⟩ := h'
    refine ⟨?_, fun q hq => ?_⟩
    · show RowA lo P w vk0 ((R0 ++ [r]).map Rp.g ++ gs)
      rw [List.map_append, List.append_assoc]
      exact h1
    · rcases List.mem_append.1 hq with hq | hq
      · exact h2 q hq
      · simp at hq
        subst hq
        exact hr
  | cons f fs =>
    obtain ⟨h1, h2, h3, h4, h5, h6⟩ := h'
    refine ⟨h1, h2, h3, ?_, fun q hq => ?_, h6⟩
    · show RowA lo P w f.vk ((f.R ++ [r]).map Rp.g ++ gs)
      rw [List.map_append, List.append_assoc]
      exact h4
    · rcases List.mem_append.1 hq with hq | hq
      · exact h5 q hq
      · simp at hq
        subst hq
        exact hr
set_option maxRecDepth 100000 in
/-- A node that stands behind, and that is closed, is one of the closed ones. -/
theorem StAt.push {lo : Nat} {P Q : Nat → Prop} {s : Stt} {gs : List Nat} {w : World} (r : Rp) (h : StAt lo P Q s (r.g :: gs) w) (ht : s.tl = none) (N : Nat → Prop) (hN : ∀ b, N b → ¬ P b ∧ ¬ s.X b ∧ lo ≤ b ∧ b < w.heap.size)
    (hr : POne (fun b => Q b ∨ N b) (inQ fun b => Q b ∨ N b) w r) : StAt lo P (fun b => Q b ∨ N b) (s.push r) gs w := by
  obtain ⟨e1, e2, e3, e4, e5, e6, e7⟩ := push_a s r
  refine ⟨by rw [push_blk, e1]; exact h.blk, by rw [e4, push_len, push_gs]; exact h.opn, by rw [e2, e3, push_cnt]; exact h.cnt, ?_, fun t h' => (by rw [e5, ht] at h'; cases h'), ?_, ?_, ?_, ?_⟩
  · have hf := h.frs
    have e8 : s.tg = [] := by unfold Stt.tg; rw [ht]
    have e9 : (s.push r).tg = [] := by unfold Stt.tg; rw [e5, ht]
    rw [e8, List.nil_append] at hf
    rw [e9, List.nil_append]
    exact hf.push r (fun b hb => .inl hb) hr
  · intro b hb hq
    rcases hq with hq | hq
    · exact h.pq b hb hq
    · exact (hN b hq).1 hb
  · intro b hb
    rw [push_X]
    exact h.px b hb
  · intro b hb
    rw [push_X]
    rcases hb with hb | hb
    · exact h.qx b hb
    · exact (hN b hb).2.1
  · intro b hb
    rw [push_X] at hb
    rcases hb with hb | (hb | hb) | hb
    · exact h.lo b (.inl hb)
    · exact h.lo b (.inr (.inl hb))
    · exact (hN b hb).2.2
    · exact h.lo b (.inr (.inr hb))

/-! ### a text that is closed -/
def Stt.settled (s : Stt) : Stt := match s.tl with | none => s | some t => ({ s with tl := none }).push t.rp
set_option maxRecDepth 100000 in
theorem settled_tl (s : Stt) : s.settled.tl = none := by
  unfold Stt.settled
  cases ht : s.tl with
  | none => exact ht
  | some t => exact (push_a _ _).2.2.2.2.1
set_option maxRecDepth 100000 in
theorem settled_bst (s : Stt) (x : List Nd) : s.settled.bst x = s.bst x := by
  unfold Stt.settled
  cases ht : s.tl with
  | none => rfl
  | some t =>
    show (({ s with tl := none } : Stt).push t.rp).bst x = s.bst x
    rw [bst_push _ _ rfl]
    unfold Stt.bst Stt.tn
    rw [ht]
    rfl
set_option maxRecDepth 100000 in
theorem settled_a (s : Stt) : s.settled.a = s.a ∧ s.settled.n = s.n ∧ s.settled.fs.length = s.fs.length ∧ s.settled.topG = s.topG := by
  unfold Stt.settled
  cases ht : s.tl with
  | none => exact ⟨rfl, rfl, rfl, rfl⟩
  | some t => exact ⟨(push_a _ _).1, (push_a _ _).2.2.1, push_len _ _, (push_a _ _).2.2.2.2.2.2⟩
set_option maxRecDepth 100000 in
theorem buf_of {lo : Nat} {w : World} {t : Tl} (h : TlAt lo w t) : BufAt w t.bv t.mo := by
  rcases h.own.2 with ⟨hv, h0⟩ | ⟨g, cap, cur, fz, hv, hg, hh, hfz, hnc, hcm, hcs, htk⟩
  · exact .inl ⟨hv, List.length_eq_zero_iff.1 h0⟩
  · have hne : t.mo ≠ [] := fun e => by have := h.ne e; rw [hv] at this; cases this
    exact .inr ⟨hne, g, cap, cur, fz, hv, hh, hnc, hcm, by rw [hcs, Nat.mul_one], by rw [Nat.mul_one] at htk; exact htk⟩
set_option maxRecDepth 100000 in
theorem Tl.one {lo : Nat} {T : Nat → Prop} {F : Nat → Nat → Prop} {w : World} {t : Tl} (h : TlAt lo w t) (hg : T t.g) (hF : ∀ k, t.bv.ownBlock = some k → F k t.mo.length) : POne T F w t.rp :=
  ⟨hg, ⟨cell_at h.blk 0, cell_at h.blk 1, cell_at h.blk 2, cell_at h.blk 3, cell_at h.blk 5, cell_at h.blk 6⟩, .text rfl rfl rfl rfl rfl (buf_of h) hF, AttrsAt.nil _ _, PTree.nil _ _ _⟩
set_option maxRecDepth 100000 in
theorem TlAt.buf {lo : Nat} {w : World} {t : Tl} (h : TlAt lo w t) {b : Nat} (hb : t.bv.ownBlock = some b) : ∃ cur fz, w.heap[b]? = some (.cells cur 5 fz) := by
  rcases h.own.2 with ⟨hv, _⟩ | ⟨g, cap, cur, fz, hv, _, hh, _⟩
  · rw [hv] at hb; cases hb
  · rw [hv] at hb
    injection hb with hb
    subst hb
    exact ⟨cur, fz, hh⟩
set_option maxRecDepth 100000 in
/-- What its own blocks hold. -/
theorem StAt.ovT {lo : Nat} {P Q : Nat → Prop} {s : Stt} {gs : List Nat} {w : World} (h : StAt lo P Q s gs w) {b : Nat} (hb : s.ov.ownBlock = some b) : ∃ cur, w.heap[b]? = some (.cells cur 174 (0, 0)) := by
  rcases h.opn.2 with ⟨hv, _⟩ | ⟨g, cap, cur, hv, _, hh, _⟩
  · rw [hv] at hb; cases hb
  · rw [hv] at hb
    injection hb with hb
    subst hb
    exact ⟨cur, hh⟩
set_option maxRecDepth 100000 in
theorem ne_of_heap {w : World} {b c : Nat} {o p : Obj} (hb : w.heap[b]? = some o) (hc : w.heap[c]? = some p) (h : o ≠ p) : b ≠ c := fun e => by
  subst e
  rw [hb] at hc
  injection hc with hc
  exact h hc
set_option maxRecDepth 100000 in
theorem cells_ne {cs ds : Array Value} {t u : TypeId} {f g : Nat × Nat} (h : t ≠ u) : Obj.cells cs t f ≠ Obj.cells ds u g := fun e => by injection e with _ e; exact h e
set_option maxRecDepth 100000 in
/-- A node's block is none of the builder's own but a text's. -/
theorem StAt.nodeX {lo : Nat} {P Q : Nat → Prop} {s : Stt} {gs : List Nat} {w : World} (h : StAt lo P Q s gs w) (ht : s.tl = none) {b : Nat} {cs : Array Value} {t : TypeId} {fz : Nat × Nat} (hb : w.heap[b]? = some (.cells cs t fz)) (h1 : t ≠ 168) (h2 : t ≠ 174) : ¬ s.X b := by
  rintro (rfl | rfl | hx | ⟨t', h', _⟩)
  · exact ne_of_heap hb h.blk (cells_ne h1) rfl
  · obtain ⟨es, ck, hh⟩ := h.cnt.heap
    exact ne_of_heap hb hh (fun e => by cases e) rfl
  · obtain ⟨cur, hh⟩ := h.ovT hx
    exact ne_of_heap hb hh (cells_ne h2) rfl
  · rw [ht] at h'
    cases h'
set_option maxRecDepth 100000 in
theorem StAt.settle {lo : Nat} {P Q : Nat → Prop} {s : Stt} {gs : List Nat} {w : World} (h : StAt lo P Q s gs w) : ∃ Q', StAt lo P Q' s.settled gs w ∧ ∀ b, Q' b → Q b ∨ s.X b := by
  unfold Stt.settled
  cases ht : s.tl with
  | none => exact ⟨Q, h, fun b hb => .inl hb⟩
  | some t =>
    have htl := h.tl t ht
    have h0 : StAt lo P Q { s with tl := none } (t.rp.g :: gs) w := by
      refine ⟨h.blk, h.opn, h.cnt, ?_, fun t' h' => (by cases h'), h.pq, fun b hb hx => h.px b hb ?_, fun b hb hx => h.qx b hb ?_, fun b hb => h.lo b ?_⟩
      · have hf := h.frs
        unfold Stt.tg at hf
        rw [ht] at hf
        exact hf
      · rcases hx with hx | hx | hx | ⟨t', h', _⟩
        · exact .inl hx
        · exact .inr (.inl hx)
        · exact .inr (.inr (.inl hx))
        · cases h'
      · rcases hx with hx | hx | hx | ⟨t', h', _⟩
        · exact .inl hx
        · exact .inr (.inl hx)
        · exact .inr (.inr (.inl hx))
        · cases h'
      · rcases hb with hb | hb | hx | hx | hx | ⟨t', h', _⟩
        · exact .inl hb
        · exact .inr (.inl hb)
        · exact .inr (.inr (.inl hx))
        · exact .inr (.inr (.inr (.inl hx)))
        · exact .inr (.inr (.inr (.inr (.inl hx))))
        · cases h'
    have hX : ∀ b, (b = t.g ∨ t.bv.ownBlock = some b) → s.X b := fun b hb => .inr (.inr (.inr ⟨t, ht, hb⟩))
    refine ⟨_, h0.push t.rp rfl (fun b => b = t.g ∨ t.bv.ownBlock = some b) (fun b hb => ⟨fun hp => h.px b hp (hX b hb), ?_, h.lo b (.inr (.inr (hX b hb)))⟩) (Tl.one htl (.inr (.inl rfl)) fun k hk => .inr (.inr hk)), fun b hb => ?_⟩
    · rcases hb with rfl | hb
      · exact h0.nodeX rfl htl.blk (by decide) (by decide)
      · obtain ⟨cur, fz, hh⟩ := htl.buf hb
        exact h0.nodeX rfl hh (by decide) (by decide)
    · rcases hb with hb | hb
      · exact .inl hb
      · exact .inr (hX b hb)

/-! ### add -/
/-- A row that has got one more, and the cell where it lies. -/
structure Added (lo t : Nat) (vk vk' : Value) (gs : List Nat) (ng : Nat) (w w' : World) : Prop where
  os : w'.os = w.os
  tape : w'.tape = w.tape
  output : w'.output = w.output
  size : w.heap.size ≤ w'.heap.size
  row : w'.ownsRow lo 174 1 vk' (gs ++ [ng]).length ((gs ++ [ng]).map pcell)
  new : vk'.ownBlock = vk.ownBlock ∨ ∀ b, vk'.ownBlock = some b → w.heap.size ≤ b
  cell : ∀ cs ty, w.heap[t]? = some (.cells cs ty (0, 0)) → w'.heap[t]? = some (.cells (cs.setIfInBounds 6 vk') ty (0, 0))
  other : ∀ b, b < w.heap.size → b ≠ t → vk.ownBlock ≠ some b → w'.heap[b]? = w.heap[b]?
set_option maxRecDepth 100000 in
theorem StAt.top {lo : Nat} {P Q : Nat → Prop} {s : Stt} {gs : List Nat} {w : World} (h : StAt lo P Q s gs w) :
    RowA lo P w s.topV (s.topR.map Rp.g ++ (s.tg ++ gs)) ∧ ∃ cs ty, w.heap[s.topG]? = some (.cells cs ty (0, 0)) ∧ cs[6]? = some s.topV ∧ ty ≠ 174 := by
  have hf := h.frs
  have hb := h.blk
  unfold Stt.topV Stt.topR Stt.topG
  cases hfs : s.fs with
  | nil =>
    rw [hfs] at hf
    exact ⟨hf.1, _, _, hb, rfl, by decide⟩
  | cons f fs =>
    rw [hfs] at hf
    obtain ⟨h1, h2, h3, h4, h5, h6⟩ := hf
    exact ⟨h4, _, _, h2, rfl, by decide⟩
set_option maxRecDepth 100000 in
theorem info_pnode : (Tryz.prog.info? 174).map (fun i => (i.zero, i.size, i.bytes)) = some (some (.pointer none), 1, 8) := by kernel_rfl

set_option maxHeartbeats 2000000 in
set_option maxRecDepth 100000 in
theorem add_any {lo : Nat} {P Q : Nat → Prop} {s : Stt} {gs : List Nat} {w : World} (h : StAt lo P Q s gs w) (ng : Nat) (hz : s.fs.length ≤ 100000000) (hr : (s.topR.map Rp.g ++ (s.tg ++ gs)).length ≤ 100000000) (hlo : lo ≤ w.heap.size) :
    Calls Tryz.prog 189 #[.pointer (some ⟨s.a, 0, none⟩), .pointer (some ⟨ng, 0, none⟩)] w fun e w' => (∃ x, e = .returned x) ∧ ∃ vk', Added lo s.topG s.topV vk' (s.topR.map Rp.g ++ (s.tg ++ gs)) ng w w' := by
  have HPL := Lib.hid (place_any h hz)
  obtain ⟨hrow, cs, ty, hblk, hc6, hty⟩ := h.top
  obtain ⟨gl, hgl⟩ : ∃ gl, s.topR.map Rp.g ++ (s.tg ++ gs) = gl := ⟨_, rfl⟩
  obtain ⟨t, ht⟩ : ∃ t, s.topG = t := ⟨_, rfl⟩
  obtain ⟨vk, hvk⟩ : ∃ v, s.topV = v := ⟨_, rfl⟩
  obtain ⟨a, ha⟩ : ∃ a, s.a = a := ⟨_, rfl⟩
  rw [hgl] at hrow hr ⊢
  rw [ht] at hblk HPL ⊢
  rw [hvk] at hrow hc6 ⊢
  rw [ha] at HPL ⊢
  clear hgl ht hvk ha h
  obtain ⟨i0, hi, hz0, hz1, hz2⟩ := info_parts info_pnode
  have hne : vk.ownBlock ≠ some t := fun e => by
    obtain ⟨_, cur, hh⟩ := hrow.type e
    exact ne_of_heap hblk hh (cells_ne hty) rfl
  have hsz6 : 6 < cs.size := (Array.getElem?_eq_some_iff.1 hc6).1
  have HRUN : ∀ n, ∃ v' w', (Builtin.append_ #[164, 164] 164 #[vk, .slice (some ⟨w.heap.size, 0, none⟩) 1 1]).run Tryz.prog ((w.drewN n).alloc (.cells #[.pointer (some ⟨ng, 0, none⟩)] 174)) = .ok v' w' ∧
      (∃ A c, v' = .slice A (gl.length + 1) c) ∧ w'.cell? ⟨t, 6, none⟩ = some vk ∧ w'.frozen? ⟨t, 6, none⟩ = false ∧ Added lo t vk v' gl ng w (w'.setCell ⟨t, 6, none⟩ v') := by
    intro n
    obtain ⟨W, hW⟩ : ∃ W, (w.drewN n).alloc (.cells #[.pointer (some ⟨ng, 0, none⟩)] 174) = W := ⟨_, rfl⟩
    rw [hW]
    have hb0 : Below w.heap.size w W := by rw [← hW]; exact ⟨rfl, rfl, rfl, by simp, fun k hk => Below.heap_alloc _ _ _ (by simpa using hk)⟩
    have hsW : W.heap.size = w.heap.size + 1 := by rw [← hW]; simp
    have hnew : ∀ j u, [pcell ng][j]? = some u → W.cell? ((⟨w.heap.size, 0, none⟩ : Addr).add j) = some u := by
      rw [← hW]
      exact new_one (w.drewN n) _ _
    have hown : W.ownsRow lo 174 1 vk gl.length (gl.map pcell) := own_below hrow.own hb0
    have htW : W.heap[t]? = some (.cells cs ty (0, 0)) := (hb0.block t (Array.getElem?_eq_some_iff.1 hblk).1).trans hblk
    obtain ⟨v', w', hrun, own', hgr, hnw⟩ := run_append_new (w := W) lo 164 164 174 i0 _ 1 8 Tryz.underlying164 hi hz0 hz1 hz2 rfl (by decide) vk gl.length (gl.map pcell) hown ⟨w.heap.size, 0, none⟩ 1 1 [pcell ng] rfl hnew (fun u hu => by simp at hu; subst hu; rfl) (by unfold maxLen; omega) (by omega) (by omega)
    obtain ⟨A, c, hv, _⟩ := own_size own'
    have ht' : w'.heap[t]? = some (.cells cs ty (0, 0)) := (hgr.block t (Array.getElem?_eq_some_iff.1 htW).1 fun e => hne e.symm).trans htW
    have hne' : v'.ownBlock ≠ some t := fun e => by
      rcases own'.2 with ⟨h1, _⟩ | ⟨g, cap, cur, h1, _, hh, _⟩
      · rw [h1] at e; cases e
      · rw [h1] at e
        injection e with e
        subst e
        exact ne_of_heap ht' hh (cells_ne hty) rfl
    have hg3 : w'.grownBy (w'.setCell ⟨t, 6, none⟩ v') (some t) := ⟨rfl, rfl, rfl, by simp, fun i _ hi => heap_setCell_other _ _ _ _ (fun e => hi (by rw [e]))⟩
    refine ⟨v', w', hrun, ⟨A, c, hv⟩, (cell_at ht' 6).trans hc6, froz_at ht' 6, ⟨?_, ?_, ?_, ?_, ?_, ?_, ?_, ?_⟩⟩
    · exact hg3.os.trans (hgr.os.trans hb0.os)
    · exact hg3.tape.trans (hgr.tape.trans hb0.tape)
    · exact hg3.output.trans (hgr.output.trans hb0.output)
    · have h2 := hgr.size; have h3 := hg3.size; omega
    · have := own'.kept hg3 (.inr hne')
      rw [List.length_append, List.map_append]
      exact this
    · rcases hnw with e | e
      · exact .inl e
      · exact .inr fun b hb => by have := e b hb; omega
    · intro cs2 ty2 h2
      rw [hblk] at h2
      injection h2 with h2
      injection h2 with e1 e2 _
      subst e1
      subst e2
      exact heap_setCell_same w' t 6 _ _ v' ht'
    · intro b hb hbt hbv
      have h2 := hgr.size
      exact (hg3.block b (by omega) (fun e => hbt (by injection e))).trans ((hgr.block b (by omega) (fun e => hbv e.symm)).trans (hb0.block b hb))
  have HR := Lib.hid HRUN
  have HC := Lib.hid (show ∀ n, (w.drewN n).cell? ⟨t, 6, none⟩ = some vk from fun n => (cell_at hblk 6).trans hc6)
  clear HRUN hblk hc6 hne hsz6 hrow hty
  go_enter Tryz.func189, Tryz.ntmps189
  go_wp2_with fail
  refine HPL.out.mono ?_
  rintro e w1 ⟨rfl, n, rfl⟩
  have c6 := HC.out n
  obtain ⟨v', w', hrun, ⟨A, c, rfl⟩, d6, f6, hadd⟩ := HR.out n
  have HE := Lib.hid hadd
  clear hadd
  go_wp2_with (at_builtin; refine wpList_run_append2 rfl _ _ rfl _ _ _ rfl rfl hrun ?_)
  go_end0
  exact ⟨⟨_, rfl⟩, _, HE.out⟩

end Go.Proofs.YthmnnalamaponaaGreat
