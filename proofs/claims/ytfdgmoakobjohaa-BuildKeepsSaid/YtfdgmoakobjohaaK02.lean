/- Parts of the proof, in build order: TreeM Tree TreeA Norm MathV MathW NamM TxtM. -/
import Derived.Test.YtfdgmoakobjohaaK01
import Derived.ArgAppend
import Derived.OwnWalk
import Derived.Laws.OwnMore
import Derived.Lib.Strings

/- Part TreeM. -/
namespace Go.Proofs.Ytfdgmoakobjohaa
set_option linter.unusedVariables false

/-- A node: its kind, name, attributes, text, kids. -/
inductive Nd where
  | mk (kind : Int) (name : ByteArray) (attrs : List (ByteArray × ByteArray)) (text : ByteArray) (kids : List Nd)

def Nd.kind : Nd → Int | .mk k _ _ _ _ => k
def Nd.name : Nd → ByteArray | .mk _ n _ _ _ => n
def Nd.attrs : Nd → List (ByteArray × ByteArray) | .mk _ _ a _ _ => a
def Nd.text : Nd → ByteArray | .mk _ _ _ t _ => t
def Nd.kids : Nd → List Nd | .mk _ _ _ _ k => k
theorem Nd.eta (n : Nd) : Nd.mk n.kind n.name n.attrs n.text n.kids = n := by cases n; rfl

/-! ### sizes -/
/-- How much attributes take: 10 for each, and their bytes. -/
def szA : List (ByteArray × ByteArray) → Nat
  | [] => 0
  | a :: l => 10 + a.1.size + a.2.size + szA l
mutual
/-- How much a node takes: 10, its bytes, its attributes, its kids. -/
def szN : Nd → Nat
  | .mk _ n a t k => 10 + n.size + t.size + szA a + szL k
def szL : List Nd → Nat
  | [] => 0
  | n :: l => szN n + szL l
end

theorem szN_eq (n : Nd) : szN n = 10 + n.name.size + n.text.size + szA n.attrs + szL n.kids := by cases n; simp [szN, Nd.name, Nd.text, Nd.attrs, Nd.kids]
theorem szL_cons (n : Nd) (l : List Nd) : szL (n :: l) = szN n + szL l := by simp [szL]
theorem szL_nil : szL [] = 0 := by simp [szL]
theorem szL_append : ∀ (a b : List Nd), szL (a ++ b) = szL a + szL b
  | [], b => by simp [szL]
  | x :: a, b => by rw [List.cons_append, szL_cons, szL_cons, szL_append a b]; omega
theorem szA_append : ∀ (a b : List (ByteArray × ByteArray)), szA (a ++ b) = szA a + szA b
  | [], b => by simp [szA]
  | x :: a, b => by rw [List.cons_append, szA, szA, szA_append a b]; omega
theorem szL_at : ∀ {l : List Nd} {j : Nat} {n : Nd}, l[j]? = some n → szN n ≤ szL l
  | [], j, n, h => by simp at h
  | x :: l, 0, n, h => by
    simp at h
    subst h
    rw [szL_cons]
    omega
  | x :: l, j + 1, n, h => by
    have := szL_at (l := l) (j := j) (n := n) (by simpa using h)
    rw [szL_cons]
    omega
theorem szL_kids {l : List Nd} {j : Nat} {n : Nd} (h : l[j]? = some n) : szL n.kids < szL l := by
  have := szL_at h
  rw [szN_eq] at this
  omega
theorem szL_len : ∀ l : List Nd, 10 * l.length ≤ szL l
  | [] => by simp [szL]
  | n :: l => by
    have := szL_len l
    rw [szL_cons, szN_eq, List.length_cons]
    omega
theorem szA_len : ∀ l : List (ByteArray × ByteArray), 10 * l.length ≤ szA l
  | [] => by simp [szA]
  | n :: l => by
    have := szA_len l
    rw [szA, List.length_cons]
    omega
theorem szA_at : ∀ {l : List (ByteArray × ByteArray)} {j : Nat} {x : ByteArray × ByteArray}, l[j]? = some x → x.1.size + x.2.size + 10 ≤ szA l
  | [], j, x, h => by simp at h
  | y :: l, 0, x, h => by
    simp at h
    subst h
    rw [szA]
    omega
  | y :: l, j + 1, x, h => by
    have := szA_at (l := l) (j := j) (x := x) (by simpa using h)
    rw [szA]
    omega

/-- Induction over nodes: all kids' lists come ahead. -/
theorem nd_ind {P : List Nd → Prop} (h : ∀ l : List Nd, (∀ (j : Nat) (n : Nd), l[j]? = some n → P n.kids) → P l) : ∀ l, P l := by
  have key : ∀ (k : Nat) (l : List Nd), szL l ≤ k → P l := by
    intro k
    induction k with
    | zero =>
      intro l hl
      refine h l fun j n hj => ?_
      have := szL_kids hj
      omega
    | succ k ih =>
      intro l hl
      refine h l fun j n hj => ih _ ?_
      have := szL_kids hj
      omega
  exact fun l => key _ l (Nat.le_refl _)

/-! ### merged -/
/-- A text behind a list's last node is one with it, if that is a text. -/
def mglue (l : List Nd) (x : ByteArray) : List Nd :=
  match l.getLast? with
  | some n => l.dropLast ++ [.mk n.kind n.name n.attrs (n.text ++ x) n.kids]
  | none => []
def lastText (l : List Nd) : Bool := match l.getLast? with | some n => n.kind == 2 | none => false
def mstep (out : List Nd) (n : Nd) : List Nd :=
  if n.kind = 2 ∧ n.text.data.toList = [] then out else if n.kind = 2 ∧ lastText out = true then mglue out n.text else out ++ [n]
def mergeB (l : List Nd) : List Nd := l.foldl mstep []

theorem mglue_snoc (l : List Nd) (n : Nd) (x : ByteArray) : mglue (l ++ [n]) x = l ++ [.mk n.kind n.name n.attrs (n.text ++ x) n.kids] := by simp [mglue]
theorem lastText_snoc (l : List Nd) (n : Nd) : lastText (l ++ [n]) = (n.kind == 2) := by simp [lastText]
theorem snoc_of {α : Type} {l : List α} (h : 0 < l.length) : ∃ m x, l = m ++ [x] := by
  rcases List.eq_nil_or_concat l with rfl | ⟨m, x, hx⟩
  · simp at h
  · exact ⟨m, x, by rw [hx]; simp⟩

theorem szN_mk (k : Int) (n : ByteArray) (a : List (ByteArray × ByteArray)) (t : ByteArray) (ks : List Nd) : szN (.mk k n a t ks) = 10 + n.size + t.size + szA a + szL ks := by simp [szN]

theorem mstep_sz (out : List Nd) (n : Nd) : szL (mstep out n) ≤ szL out + szN n := by
  unfold mstep
  split
  · omega
  · split
    · rename_i h
      rcases Nat.eq_zero_or_pos out.length with h0 | h0
      · have : out = [] := List.eq_nil_of_length_eq_zero h0
        subst this
        simp [lastText] at h
      · obtain ⟨m, x, rfl⟩ := snoc_of h0
        have e1 := szN_eq x
        have e2 := szN_eq n
        rw [mglue_snoc, szL_append, szL_append, szL_cons, szL_cons, szL_nil, szN_mk, ByteArray.size_append]
        omega
    · rw [szL_append, szL_cons, szL_nil]
      omega
theorem merge_sz (l : List Nd) : szL (mergeB l) ≤ szL l := by
  unfold mergeB
  have key : ∀ (l : List Nd) (out : List Nd), szL (l.foldl mstep out) ≤ szL out + szL l := by
    intro l
    induction l with
    | nil => intro out; simp
    | cons n l ih =>
      intro out
      have := ih (mstep out n)
      have := mstep_sz out n
      rw [List.foldl_cons, szL_cons]
      omega
  have := key l []
  rw [szL_nil] at this
  omega

end Go.Proofs.Ytfdgmoakobjohaa

/- Part Tree. -/
namespace Go.Proofs.Ytfdgmoakobjohaa
open Go.RowKit
set_option linter.unusedVariables false

/-! ### rows of cells, in blocks of a kind -/
/-- The slice with address A holds the cells xs; they lie in a block of S. -/
def Cells (S : Nat → Prop) (w : World) (A : Option Addr) (xs : List Value) : Prop :=
  0 < xs.length → ∃ b o, A = some ⟨b, o, none⟩ ∧ S b ∧ ∀ j u, xs[j]? = some u → w.cell? ⟨b, o + j, none⟩ = some u

/-- Two worlds hold the same cells in the blocks of S. -/
def Kept (S : Nat → Prop) (w w' : World) : Prop := ∀ b, S b → ∀ j, w'.cell? ⟨b, j, none⟩ = w.cell? ⟨b, j, none⟩

theorem Kept.below {S : Nat → Prop} {w w' : World} (hb : Below w.heap.size w w') (hS : ∀ b, S b → b < w.heap.size) : Kept S w w' := fun b hs j => hb.cell (p := ⟨b, j, none⟩) (hS b hs)
theorem Kept.belowB {S : Nat → Prop} {w w' : World} {B : Nat} (hb : Below B w w') (hS : ∀ b, S b → b < B) : Kept S w w' := fun b hs j => hb.cell (p := ⟨b, j, none⟩) (hS b hs)
theorem Kept.grown {S : Nat → Prop} {w w' : World} {row : Option Nat} (hg : w.grownBy w' row) (hS : ∀ b, S b → b < w.heap.size ∧ some b ≠ row) : Kept S w w' :=
  fun b hs j => World.cell?_of_block (a := ⟨b, j, none⟩) (hg.block b (hS b hs).1 (hS b hs).2)
theorem Kept.mono {S S' : Nat → Prop} {w w' : World} (h : Kept S' w w') (hS : ∀ b, S b → S' b) : Kept S w w' := fun b hs => h b (hS b hs)
theorem Kept.trans {S : Nat → Prop} {w w' w'' : World} (h : Kept S w w') (h' : Kept S w' w'') : Kept S w w'' := fun b hs j => (h' b hs j).trans (h b hs j)
theorem Kept.refl (S : Nat → Prop) (w : World) : Kept S w w := fun _ _ _ => rfl

theorem Cells.nil (S : Nat → Prop) (w : World) (A : Option Addr) : Cells S w A [] := fun h => absurd h (by simp)
theorem Cells.keep {S : Nat → Prop} {w w' : World} {A : Option Addr} {xs : List Value} (h : Cells S w A xs) (hk : Kept S w w') : Cells S w' A xs := by
  intro hx
  obtain ⟨b, o, hA, hb, hc⟩ := h hx
  exact ⟨b, o, hA, hb, fun j u hu => (hk b hb _).trans (hc j u hu)⟩
theorem Cells.mono {S S' : Nat → Prop} {w : World} {A : Option Addr} {xs : List Value} (h : Cells S w A xs) (hS : ∀ b, S b → S' b) : Cells S' w A xs := by
  intro hx
  obtain ⟨b, o, hA, hb, hc⟩ := h hx
  exact ⟨b, o, hA, hS b hb, hc⟩
theorem Cells.take {S : Nat → Prop} {w : World} {A : Option Addr} {xs : List Value} (h : Cells S w A xs) (n : Nat) : Cells S w A (xs.take n) := by
  intro hx
  obtain ⟨b, o, hA, hb, hc⟩ := h (by rw [List.length_take] at hx; omega)
  refine ⟨b, o, hA, hb, fun j u hu => hc j u ?_⟩
  rw [List.getElem?_take] at hu
  split at hu
  · exact hu
  · cases hu
/-- What the call owns can be read, in its own block. -/
theorem Cells.own {w : World} {base size : Nat} {e : TypeId} {A : Option Addr} {n c : Nat} {xs : List Value} (h : w.ownsRow base e size (.slice A n c) n xs) : Cells (fun b => (Value.slice A n c).ownBlock = some b) w A xs := by
  intro hx
  rcases h.2 with ⟨_, h0⟩ | ⟨g, cap, cur, hv, hg, hh, hnc, hcm, hcs, hct⟩
  · have := h.1
    rw [h0] at this
    simp at this
    rw [this] at hx
    simp at hx
  · have hA : A = some ⟨g, 0, none⟩ := by injection hv
    have hc : c = cap := by injection hv
    subst hA
    subst hc
    refine ⟨g, 0, rfl, rfl, fun j u hu => ?_⟩
    rw [Nat.zero_add]
    have hj : j < n * size := by rw [← h.1]; exact (List.getElem?_eq_some_iff.1 hu).1
    rw [h.cellAt j hj]
    exact hu

/-! ### attributes -/
def acells (l : List (ByteArray × ByteArray)) : List Value := l.flatMap fun a => [.string a.1, .string a.2]
theorem acells_nil : acells [] = [] := rfl
theorem acells_append (a b : List (ByteArray × ByteArray)) : acells (a ++ b) = acells a ++ acells b := by simp [acells]
theorem acells_cons (a : ByteArray × ByteArray) (l : List (ByteArray × ByteArray)) : acells (a :: l) = .string a.1 :: .string a.2 :: acells l := by simp [acells]
theorem acells_length : ∀ l, (acells l).length = l.length * 2
  | [] => rfl
  | a :: l => by rw [acells_cons, List.length_cons, List.length_cons, acells_length l, List.length_cons]; omega
theorem acells_at : ∀ {l : List (ByteArray × ByteArray)} {k : Nat} {x : ByteArray × ByteArray}, l[k]? = some x → (acells l)[k * 2]? = some (.string x.1) ∧ (acells l)[k * 2 + 1]? = some (.string x.2)
  | [], k, x, h => by simp at h
  | a :: l, 0, x, h => by
    simp at h
    subst h
    rw [acells_cons]
    exact ⟨rfl, rfl⟩
  | a :: l, k + 1, x, h => by
    have := acells_at (l := l) (k := k) (x := x) (by simpa using h)
    rw [acells_cons, show (k + 1) * 2 = k * 2 + 1 + 1 by omega]
    simpa using this

def AttrsAt (S : Nat → Prop) (w : World) (l : List (ByteArray × ByteArray)) (v : Value) : Prop :=
  ∃ A c, v = .slice A l.length c ∧ l.length ≤ c ∧ Cells S w A (acells l)
theorem AttrsAt.keep {S : Nat → Prop} {w w' : World} {l : List (ByteArray × ByteArray)} {v : Value} (h : AttrsAt S w l v) (hk : Kept S w w') : AttrsAt S w' l v := by
  obtain ⟨A, c, hv, hc, hx⟩ := h
  exact ⟨A, c, hv, hc, hx.keep hk⟩
theorem AttrsAt.mono {S S' : Nat → Prop} {w : World} {l : List (ByteArray × ByteArray)} {v : Value} (h : AttrsAt S w l v) (hS : ∀ b, S b → S' b) : AttrsAt S' w l v := by
  obtain ⟨A, c, hv, hc, hx⟩ := h
  exact ⟨A, c, hv, hc, hx.mono hS⟩
theorem AttrsAt.nil (S : Nat → Prop) (w : World) : AttrsAt S w [] (.slice none 0 0) := ⟨none, 0, rfl, Nat.le_refl _, Cells.nil _ _ _⟩
/-- An attribute's two cells. -/
theorem AttrsAt.at_ {S : Nat → Prop} {w : World} {l : List (ByteArray × ByteArray)} {v : Value} (h : AttrsAt S w l v) (hl : 0 < l.length) :
    ∃ b o c, v = .slice (some ⟨b, o, none⟩) l.length c ∧ l.length ≤ c ∧ S b ∧ ∀ k x, l[k]? = some x → w.cell? ⟨b, o + k * 2, none⟩ = some (.string x.1) ∧ w.cell? ⟨b, o + k * 2 + 1, none⟩ = some (.string x.2) := by
  obtain ⟨A, c, hv, hc, hx⟩ := h
  obtain ⟨b, o, rfl, hS, hcell⟩ := hx (by rw [acells_length]; omega)
  refine ⟨b, o, c, hv, hc, hS, fun k x hk => ?_⟩
  have := acells_at hk
  exact ⟨hcell _ _ this.1, by rw [Nat.add_assoc]; exact hcell _ _ this.2⟩

/-! ### nodes -/
/-- A node with the values of its two lists. -/
structure Rn where
  n : Nd
  va : Value
  vk : Value

def ncells1 (r : Rn) : List Value := [.int .i64 r.n.kind, .string r.n.name, r.va, .string r.n.text, r.vk]
def ncells (R : List Rn) : List Value := R.flatMap ncells1
theorem ncells_nil : ncells [] = [] := rfl
theorem ncells_append (a b : List Rn) : ncells (a ++ b) = ncells a ++ ncells b := by simp [ncells]
theorem ncells_cons (r : Rn) (R : List Rn) : ncells (r :: R) = .int .i64 r.n.kind :: .string r.n.name :: r.va :: .string r.n.text :: r.vk :: ncells R := by simp [ncells, ncells1]
theorem ncells_length : ∀ R, (ncells R).length = R.length * 5
  | [] => rfl
  | r :: R => by rw [ncells_cons]; simp only [List.length_cons]; rw [ncells_length R]; omega
theorem ncells_at : ∀ {R : List Rn} {k : Nat} {r : Rn}, R[k]? = some r → (ncells R)[k * 5]? = some (.int .i64 r.n.kind) ∧ (ncells R)[k * 5 + 1]? = some (.string r.n.name) ∧ (ncells R)[k * 5 + 2]? = some r.va ∧ (ncells R)[k * 5 + 3]? = some (.string r.n.text) ∧ (ncells R)[k * 5 + 4]? = some r.vk
  | [], k, r, h => by simp at h
  | a :: R, 0, r, h => by
    simp at h
    subst h
    rw [ncells_cons]
    exact ⟨rfl, rfl, rfl, rfl, rfl⟩
  | a :: R, k + 1, r, h => by
    have := ncells_at (R := R) (k := k) (r := r) (by simpa using h)
    rw [ncells_cons, show (k + 1) * 5 = k * 5 + 1 + 1 + 1 + 1 + 1 by omega]
    simpa using this

/-- The slice v holds the nodes l, with all that hangs on them, in blocks of S. -/
inductive Tree (S : Nat → Prop) (w : World) : List Nd → Value → Prop
  | mk (R : List Rn) (l : List Nd) (A : Option Addr) (c : Nat) (hl : R.map Rn.n = l) (hc : l.length ≤ c) (hcell : Cells S w A (ncells R))
      (hat : ∀ r ∈ R, AttrsAt S w r.n.attrs r.va) (hk : ∀ r ∈ R, Tree S w r.n.kids r.vk) : Tree S w l (.slice A l.length c)

theorem Tree.keep {S : Nat → Prop} {w w' : World} {l : List Nd} {v : Value} (h : Tree S w l v) (hk : Kept S w w') : Tree S w' l v := by
  induction h with
  | mk R l A c hl hc hcell hat hkids ih => exact .mk R l A c hl hc (hcell.keep hk) (fun r hr => (hat r hr).keep hk) ih
theorem Tree.mono {S S' : Nat → Prop} {w : World} {l : List Nd} {v : Value} (h : Tree S w l v) (hS : ∀ b, S b → S' b) : Tree S' w l v := by
  induction h with
  | mk R l A c hl hc hcell hat hkids ih => exact .mk R l A c hl hc (hcell.mono hS) (fun r hr => (hat r hr).mono hS) ih
theorem Tree.stay {w w' : World} {B : Nat} {l : List Nd} {v : Value} (h : Tree (· < B) w l v) (hb : Below B w w') : Tree (· < B) w' l v := h.keep (Kept.belowB hb fun _ h => h)
theorem Tree.nil (S : Nat → Prop) (w : World) : Tree S w [] (.slice none 0 0) := .mk [] [] none 0 rfl (Nat.le_refl _) (Cells.nil _ _ _) (by simp) (by simp)

/-- A node's cells, and what hangs on it. -/
structure NodeAt (S : Nat → Prop) (w : World) (b o : Nat) (n : Nd) (va vk : Value) : Prop where
  c0 : w.cell? ⟨b, o, none⟩ = some (.int .i64 n.kind)
  c1 : w.cell? ⟨b, o + 1, none⟩ = some (.string n.name)
  c2 : w.cell? ⟨b, o + 2, none⟩ = some va
  c3 : w.cell? ⟨b, o + 3, none⟩ = some (.string n.text)
  c4 : w.cell? ⟨b, o + 4, none⟩ = some vk
  at_ : AttrsAt S w n.attrs va
  kids : Tree S w n.kids vk

theorem Tree.shape {S : Nat → Prop} {w : World} {l : List Nd} {v : Value} (h : Tree S w l v) : ∃ A c, v = .slice A l.length c ∧ l.length ≤ c := by
  cases h with
  | mk R l A c hl hc hcell hat hkids => exact ⟨A, c, rfl, hc⟩

theorem Tree.open_ {S : Nat → Prop} {w : World} {l : List Nd} {v : Value} (h : Tree S w l v) (h0 : 0 < l.length) :
    ∃ b o c, v = .slice (some ⟨b, o, none⟩) l.length c ∧ l.length ≤ c ∧ S b ∧ ∀ k n, l[k]? = some n → ∃ va vk, NodeAt S w b (o + k * 5) n va vk := by
  cases h with
  | mk R l A c hl hc hcell hat hkids =>
    subst hl
    obtain ⟨b, o, rfl, hS, hx⟩ := hcell (by rw [ncells_length]; rw [List.length_map] at h0; omega)
    refine ⟨b, o, c, rfl, hc, hS, fun k n hn => ?_⟩
    rw [List.getElem?_map] at hn
    cases hr : R[k]? with
    | none => rw [hr] at hn; cases hn
    | some r =>
      rw [hr] at hn
      injection hn with hn
      subst hn
      have hm := List.mem_of_getElem? hr
      have ha := ncells_at hr
      refine ⟨r.va, r.vk, hx _ _ ha.1, ?_, ?_, ?_, ?_, hat r hm, hkids r hm⟩
      all_goals rw [Nat.add_assoc]
      · exact hx _ _ ha.2.1
      · exact hx _ _ ha.2.2.1
      · exact hx _ _ ha.2.2.2.1
      · exact hx _ _ ha.2.2.2.2

theorem Tree.take {S : Nat → Prop} {w : World} {l : List Nd} {A : Option Addr} {n c : Nat} (h : Tree S w l (.slice A n c)) (k : Nat) (hk : k ≤ l.length) : Tree S w (l.take k) (.slice A k c) := by
  cases h with
  | mk R l A c hl hc hcell hat hkids =>
    subst hl
    have hk' : k ≤ R.length := by simpa using hk
    have e : ncells (R.take k) = (ncells R).take (k * 5) := by
      have h1 : ncells R = ncells (R.take k) ++ ncells (R.drop k) := by rw [← ncells_append, List.take_append_drop]
      rw [h1, List.take_left' (by rw [ncells_length, List.length_take]; omega)]
    have hlen : (((R.take k).map Rn.n)).length = k := by rw [List.length_map, List.length_take]; omega
    have hb : ((R.take k).map Rn.n).length ≤ c := by rw [hlen]; rw [List.length_map] at hc; omega
    have := Tree.mk (S := S) (w := w) (R.take k) ((R.take k).map Rn.n) A c rfl hb (by rw [e]; exact hcell.take _)
      (fun r hr => hat r (List.mem_of_mem_take hr)) (fun r hr => hkids r (List.mem_of_mem_take hr))
    rw [hlen] at this
    rw [← List.map_take]
    exact this

/-! ### lists that the call itself makes -/
/-- The slice v holds the nodes l in a row of the call's own; what hangs on them lies in blocks of S, which that row's is not. -/
def OwnT (w : World) (base : Nat) (S : Nat → Prop) (l : List Nd) (v : Value) : Prop :=
  ∃ R : List Rn, R.map Rn.n = l ∧ w.ownsRow base 37 5 v R.length (ncells R) ∧ (∀ r ∈ R, AttrsAt S w r.n.attrs r.va) ∧ (∀ r ∈ R, Tree S w r.n.kids r.vk) ∧ ∀ g, v.ownBlock = some g → ¬ S g

theorem own_size {w : World} {base : Nat} {e : TypeId} {s : Nat} {v : Value} {n : Nat} {xs : List Value} (h : w.ownsRow base e s v n xs) : ∃ A c, v = .slice A n c ∧ n ≤ c := by
  rcases h.2 with ⟨hv, h0⟩ | ⟨g, cap, cur, hv, _, _, hn, _⟩
  · subst h0
    exact ⟨none, 0, hv, Nat.le_refl _⟩
  · exact ⟨some ⟨g, 0, none⟩, cap, hv, hn⟩

theorem OwnT.nil (w : World) (base : Nat) (S : Nat → Prop) : OwnT w base S [] (.slice none 0 0) := ⟨[], rfl, World.ownsRow_nil _ _ _ _, by simp, by simp, fun g hg => by cases hg⟩
theorem OwnT.tree {w : World} {base : Nat} {S : Nat → Prop} {l : List Nd} {v : Value} (h : OwnT w base S l v) : Tree (fun b => S b ∨ v.ownBlock = some b) w l v := by
  obtain ⟨R, rfl, hown, hat, hk, hS⟩ := h
  obtain ⟨A, c, rfl, hc⟩ := own_size hown
  have := Tree.mk (S := fun b => S b ∨ (Value.slice A R.length c).ownBlock = some b) (w := w) R (R.map Rn.n) A c rfl (by rw [List.length_map]; exact hc) ((Cells.own hown).mono fun b hb => .inr hb)
    (fun r hr => (hat r hr).mono fun b hb => .inl hb) (fun r hr => (hk r hr).mono fun b hb => .inl hb)
  rw [List.length_map] at this
  exact this
theorem OwnT.lt {w : World} {base : Nat} {S : Nat → Prop} {l : List Nd} {v : Value} (h : OwnT w base S l v) : ∀ g, v.ownBlock = some g → base ≤ g ∧ g < w.heap.size := by
  obtain ⟨R, rfl, hown, _⟩ := h
  intro g hg
  have := hown.lt g hg
  exact ⟨this.1, this.2⟩
theorem OwnT.shape {w : World} {base : Nat} {S : Nat → Prop} {l : List Nd} {v : Value} (h : OwnT w base S l v) : ∃ A c, v = .slice A l.length c ∧ l.length ≤ c := by
  obtain ⟨R, rfl, hown, _⟩ := h
  rw [List.length_map]
  exact own_size hown

/-- The law of append, and where the new row lies: where the old one lay, or behind all that was. -/
theorem run_append_new {w : World} (base : Nat) (t ty e : TypeId) (i : TypeInfo) (z : Value) (size bytes : Nat) (ht : Try.prog.underlying t = some (.slice e)) (hi : Try.prog.info? e = some i) (hz : i.zero = some z)
    (hsize : i.size = size) (hby : i.bytes = bytes) (hzs : z.cells.size = size) (hsz : 0 < size)
    (v : Value) (n : Nat) (xs : List Value) (hown : w.ownsRow base e size v n xs)
    (a : Addr) (m c : Nat) (news : List Value) (hl : news.length = m * size) (hnews : ∀ j u, news[j]? = some u → w.cell? (a.add j) = some u) (h1 : ∀ u ∈ news, u.oneCell' = true)
    (h63 : n + m ≤ maxLen) (hbytes : (n + m) * bytes ≤ 140737488355328) (hbase : base ≤ w.heap.size) :
    ∃ v' w', (Builtin.append_ #[t, t] ty #[v, .slice (some a) m c]).run Try.prog w = .ok v' w' ∧ w'.ownsRow base e size v' (n + m) (xs ++ news) ∧ w.grownBy w' v.ownBlock ∧ (v'.ownBlock = v.ownBlock ∨ ∀ g, v'.ownBlock = some g → w.heap.size ≤ g) := by
  have hx := hown.1
  rcases hown.2 with ⟨hv, h0⟩ | ⟨g, cap, cur, hv, hg, hh, hn, hcm, hcs, hct⟩
  · subst hv
    subst h0
    have hxs : xs = [] := by
      have := hown.1
      simp at this
      exact this
    subst hxs
    obtain ⟨v', w', hrun, hown', hgr, _⟩ := run_append_own (w := w) w.heap.size t ty e i z size bytes ht hi hz hsize hby hzs hsz (.slice none 0 0) 0 [] (World.ownsRow_nil _ _ _ _) a m c news hl hnews h1 h63 hbytes (Nat.le_refl _)
    exact ⟨v', w', hrun, own_more hown' hbase, hgr, .inr fun g hg => (hown'.lt g hg).1⟩
  · subst hv
    by_cases hfit : n + m ≤ cap
    · obtain ⟨w', hrun, r1, r2⟩ := run_append_fits (P := Try.prog) w base t ty e i size ht hi hsize g n cap xs hown a m c news hl hnews h1 hfit
      exact ⟨_, w', hrun, r1, r2, .inl rfl⟩
    · obtain ⟨v', w', hrun, r1, r2⟩ := run_append_arg_grows (P := Try.prog) w t ty e i z size bytes ht hi hz hsize hby hzs hsz ⟨g, 0, none⟩ n cap xs hx (hown.cells rfl) a m c news hl hnews (by omega) h63 hbytes
      exact ⟨v', w', hrun, own_more r1 hbase, ⟨r2.os, r2.tape, r2.output, r2.size, fun k hk _ => r2.block k hk (by simp)⟩, .inr fun g hg => (r1.lt g hg).1⟩

end Go.Proofs.Ytfdgmoakobjohaa

/- Part TreeA. -/
namespace Go.Proofs.Ytfdgmoakobjohaa
open Go.RowKit
set_option linter.unusedVariables false

theorem info_node : (Try.prog.info? 37).map (fun i => (i.zero, i.size, i.bytes)) = some (some (.agg #[.int .i64 0, .string ⟨#[]⟩, .slice none 0 0, .string ⟨#[]⟩, .slice none 0 0]), 5, 88) := by kernel_rfl
theorem info_attr : (Try.prog.info? 39).map (fun i => (i.zero, i.size, i.bytes)) = some (some (.agg #[.string ⟨#[]⟩, .string ⟨#[]⟩]), 2, 32) := by kernel_rfl

/-- The blocks from lo on that there are, but v's own. -/
def Sub (lo : Nat) (w : World) (v : Value) (b : Nat) : Prop := lo ≤ b ∧ b < w.heap.size ∧ v.ownBlock ≠ some b
/-- A list of nodes of the call's own: what hangs on them lies anywhere from block lo on, but in its own row. -/
def OwnC (w : World) (base lo : Nat) (l : List Nd) (v : Value) : Prop := OwnT w base (Sub lo w v) l v

theorem OwnC.nil (w : World) (base lo : Nat) : OwnC w base lo [] (.slice none 0 0) := OwnT.nil _ _ _

theorem OwnT.later {w w' : World} {base : Nat} {S S' : Nat → Prop} {l : List Nd} {v : Value} (h : OwnT w base S l v) (hb : Below w.heap.size w w') (hS : ∀ b, S b → b < w.heap.size) (hSS : ∀ b, S b → S' b) (hv : ∀ g, v.ownBlock = some g → ¬ S' g) : OwnT w' base S' l v := by
  obtain ⟨R, hl, hown, hat, hk, hn⟩ := h
  have kp : Kept S w w' := Kept.below hb hS
  exact ⟨R, hl, own_below hown hb, fun r hr => ((hat r hr).keep kp).mono hSS, fun r hr => ((hk r hr).keep kp).mono hSS, hv⟩
/-- It stays, behind a call that only makes new blocks. -/
theorem OwnC.later {w w' : World} {base lo : Nat} {l : List Nd} {v : Value} (h : OwnC w base lo l v) (hb : Below w.heap.size w w') : OwnC w' base lo l v :=
  OwnT.later h hb (fun b hs => hs.2.1) (fun b hs => ⟨hs.1, Nat.lt_of_lt_of_le hs.2.1 hb.size, hs.2.2⟩) (fun g hg hs => hs.2.2 hg)
theorem OwnC.tree {w : World} {base lo : Nat} {l : List Nd} {v : Value} (h : OwnC w base lo l v) (hlo : lo ≤ base) : Tree (fun b => lo ≤ b ∧ b < w.heap.size) w l v := by
  have hlt := OwnT.lt h
  refine (OwnT.tree h).mono fun b hb => ?_
  rcases hb with hb | hb
  · exact ⟨hb.1, hb.2.1⟩
  · have := hlt b hb
    exact ⟨by omega, this.2⟩

/-- One node more, at an operation. -/
theorem wp_append_node {w : World} {o : Oper} {a : Act} {K : Act → World → Prop} {Q : Exit → Act → World → Prop} (s x : Operand)
    (ho : o.op = .call { callee := .builtin .append, args := #[s, x], argTypes := #[24, 24] })
    (base lo : Nat) (l : List Nd) (v : Value) (hs : a.eval s = v) (h : OwnC w base lo l v) (r : Rn) (ad : Addr) (c : Nat) (hx : a.eval x = .slice (some ad) 1 c)
    (hnews : ∀ j u, (ncells1 r)[j]? = some u → w.cell? (ad.add j) = some u) (hat : AttrsAt (Sub lo w v) w r.n.attrs r.va) (hk : Tree (Sub lo w v) w r.n.kids r.vk)
    (hlen : l.length ≤ 1000000) (hbase : base ≤ w.heap.size)
    (hK' : ∀ v' w', OwnC w' base lo (l ++ [r.n]) v' → w.grownBy w' v.ownBlock → K (a.put o.dst v') w') :
    Oper.wp Try.prog o a w K Q := by
  obtain ⟨i0, hi, hz0, hz1, hz2⟩ := info_parts info_node
  obtain ⟨R, rfl, hown, hat0, hk0, hn⟩ := h
  rw [List.length_map] at hlen
  obtain ⟨A1, c1, hva, _⟩ := id hat
  obtain ⟨A2, c2, hvk, _⟩ := hk.shape
  have h1 : ∀ u ∈ ncells1 r, u.oneCell' = true := by
    intro u hu
    simp only [ncells1, List.mem_cons, List.not_mem_nil, or_false] at hu
    rcases hu with rfl | rfl | rfl | rfl | rfl
    · rfl
    · rfl
    · rw [hva]; rfl
    · rfl
    · rw [hvk]; rfl
  obtain ⟨v', w', hrun, own', hgr, hnew⟩ := run_append_new (w := w) base 24 o.type 37 i0 _ 5 88 Try.underlying24 hi hz0 hz1 hz2 rfl (by decide) v R.length (ncells R) hown ad 1 c (ncells1 r) rfl hnews h1 (by unfold maxLen; omega) (by omega) hbase
  unfold Oper.wp
  simp [execOp, ho, resolve, invoke, builtin, hs, hx, hrun, Result.andThen]
  have hSS : ∀ b, Sub lo w v b → Sub lo w' v' b := by
    intro b hb
    refine ⟨hb.1, Nat.lt_of_lt_of_le hb.2.1 hgr.size, ?_⟩
    rcases hnew with e | e
    · rw [e]; exact hb.2.2
    · intro hg
      have := e b hg
      have := hb.2.1
      omega
  have kp : Kept (Sub lo w v) w w' := Kept.grown hgr fun b hb => ⟨hb.2.1, fun e => hb.2.2 e.symm⟩
  refine (hK' v' w' ⟨R ++ [r], by simp, ?_, ?_, ?_, fun g hg hs => hs.2.2 hg⟩ hgr)
  · rw [List.length_append, ncells_append]
    have : ncells [r] = ncells1 r := by simp [ncells]
    rw [this]
    exact own'
  · intro q hq
    rcases List.mem_append.1 hq with hq | hq
    · exact ((hat0 q hq).keep kp).mono hSS
    · simp at hq
      subst hq
      exact (AttrsAt.keep hat kp).mono hSS
  · intro q hq
    rcases List.mem_append.1 hq with hq | hq
    · exact ((hk0 q hq).keep kp).mono hSS
    · simp at hq
      subst hq
      exact (hk.keep kp).mono hSS

/-- One node more. -/
theorem wpList_append_node {w : World} {ops : Array Oper} {rest : List Oper} {o : Oper} {a : Act} {Q : Exit → Act → World → Prop} (hgd : o.guard = none) (s x : Operand)
    (ho : o.op = .call { callee := .builtin .append, args := #[s, x], argTypes := #[24, 24] })
    (base lo : Nat) (l : List Nd) (v : Value) (hs : a.eval s = v) (h : OwnC w base lo l v) (r : Rn) (ad : Addr) (c : Nat) (hx : a.eval x = .slice (some ad) 1 c)
    (hnews : ∀ j u, (ncells1 r)[j]? = some u → w.cell? (ad.add j) = some u) (hat : AttrsAt (Sub lo w v) w r.n.attrs r.va) (hk : Tree (Sub lo w v) w r.n.kids r.vk)
    (hlen : l.length ≤ 1000000) (hbase : base ≤ w.heap.size)
    (hK : ∀ v' w', OwnC w' base lo (l ++ [r.n]) v' → w.grownBy w' v.ownBlock → wpList Try.prog ops Q rest (a.put o.dst v') w') :
    wpList Try.prog ops Q (o :: rest) a w := by
  exact wpList_plain hgd fun K hK' => wp_append_node s x ho base lo l v hs h r ad c hx hnews hat hk hlen hbase fun v' w' h1 h2 => hK' _ _ (hK v' w' h1 h2)

/-- One node more, at a step of a region that draws its order. -/
theorem step_append_node {w : World} {ops : Array Oper} {o : Oper} {a : Act} {K : Act → World → Prop} {Q : Exit → Act → World → Prop} {E : Prop} (hgd : o.guard = none) (s x : Operand)
    (ho : o.op = .call { callee := .builtin .append, args := #[s, x], argTypes := #[24, 24] })
    (base lo : Nat) (l : List Nd) (v : Value) (hs : a.eval s = v) (h : OwnC w base lo l v) (r : Rn) (ad : Addr) (c : Nat) (hx : a.eval x = .slice (some ad) 1 c)
    (hnews : ∀ j u, (ncells1 r)[j]? = some u → w.cell? (ad.add j) = some u) (hat : AttrsAt (Sub lo w v) w r.n.attrs r.va) (hk : Tree (Sub lo w v) w r.n.kids r.vk)
    (hlen : l.length ≤ 1000000) (hbase : base ≤ w.heap.size)
    (hK : ∀ v' w', OwnC w' base lo (l ++ [r.n]) v' → w.grownBy w' v.ownBlock → K (a.put o.dst v') w') :
    if Region.wanted o (yielded ops a.tmps) = true then Oper.wp Try.prog o a w K Q else E := by
  have hw : Region.wanted o (yielded ops a.tmps) = true := by simp [Region.wanted, hgd]
  rw [if_pos hw]
  exact wp_append_node s x ho base lo l v hs h r ad c hx hnews hat hk hlen hbase hK

theorem ncells_set (M : List Rn) (r : Rn) (t : ByteArray) : (ncells (M ++ [r])).set (M.length * 5 + 3) (.string t) = ncells (M ++ [⟨.mk r.n.kind r.n.name r.n.attrs t r.n.kids, r.va, r.vk⟩]) := by
  rw [ncells_append, ncells_append, List.set_append_right _ _ (by rw [ncells_length]; omega), ncells_length]
  rw [show M.length * 5 + 3 - M.length * 5 = 3 by omega]
  rfl

/-- A new node's cells, where they were laid. -/
theorem new_five (w : World) (t : TypeId) (r : Rn) : ∀ j u, (ncells1 r)[j]? = some u → (w.alloc (.cells #[.int .i64 r.n.kind, .string r.n.name, r.va, .string r.n.text, r.vk] t)).cell? ((⟨w.heap.size, 0, none⟩ : Addr).add j) = some u := by
  intro j u hj
  rw [add_zero_addr]
  match j, hj with
  | 0, hj => simp [ncells1] at hj; subst hj; simp
  | 1, hj => simp [ncells1] at hj; subst hj; simp
  | 2, hj => simp [ncells1] at hj; subst hj; simp
  | 3, hj => simp [ncells1] at hj; subst hj; simp
  | 4, hj => simp [ncells1] at hj; subst hj; simp
  | j + 5, hj => simp [ncells1] at hj

/-- What came in stays, while the call makes its own; its blocks are none of the call's own row. -/
theorem input_kept {w wr : World} {lo : Nat} {l : List Nd} {v : Value} (hb : Below w.heap.size w wr) (h : OwnC wr w.heap.size lo l v) (o : Obj) :
    Kept (fun b => lo ≤ b ∧ b < w.heap.size) w (wr.alloc o) ∧ ∀ b, (lo ≤ b ∧ b < w.heap.size) → Sub lo (wr.alloc o) v b := by
  refine ⟨Kept.belowB (hb.alloc hb.size _) fun b hb => hb.2, fun b hlt => ⟨hlt.1, ?_, fun e => ?_⟩⟩
  · have := hb.size
    simp
    omega
  · have := (OwnT.lt h b e).1
    omega

theorem OwnC.drew {w : World} {base lo : Nat} {l : List Nd} {v : Value} (h : OwnC w base lo l v) : OwnC w.drew base lo l v := h.later ((Below.refl _ _).drew)

theorem below_new (w : World) (o : Obj) : Below w.heap.size w (w.alloc o) := (Below.refl _ _).alloc (Nat.le_refl _) _

/-- The last node's cells. -/
theorem OwnC.last {w : World} {base lo n c : Nat} {A : Option Addr} {m : List Nd} {x : Nd} (h : OwnC w base lo (m ++ [x]) (.slice A n c)) :
    ∃ g, A = some ⟨g, 0, none⟩ ∧ n = m.length + 1 ∧ base ≤ g ∧ w.cell? ⟨g, m.length * 5, none⟩ = some (.int .i64 x.kind) ∧ w.cell? ⟨g, m.length * 5 + 3, none⟩ = some (.string x.text) ∧ w.frozen? ⟨g, m.length * 5 + 3, none⟩ = false := by
  obtain ⟨R, hl, hown, hat, hk, hn⟩ := h
  obtain ⟨A', c', hv, _⟩ := own_size hown
  have hnl : n = R.length := by injection hv
  subst hnl
  have hR : 0 < R.length := by
    have := congrArg List.length hl
    simp at this
    omega
  obtain ⟨M, r, rfl⟩ := snoc_of hR
  have hml : M.map Rn.n = m ∧ r.n = x := by
    rw [List.map_append] at hl
    have := List.append_inj' hl (by simp)
    exact ⟨this.1, by simpa using this.2⟩
  have hlen : m.length = M.length := by rw [← hml.1]; simp
  obtain ⟨g, rfl, hcells⟩ : ∃ g, A = some ⟨g, 0, none⟩ ∧ True := by
    rcases hown.2 with ⟨_, h0⟩ | ⟨g, cap, cur, hv, _⟩
    · simp at h0
    · injection hv with hA
      exact ⟨g, hA, trivial⟩
  have ha := ncells_at (R := M ++ [r]) (k := M.length) (r := r) (by simp)
  have hb := hown.lt g rfl
  rw [hlen]
  refine ⟨g, rfl, by simp, hb.1, ?_, ?_, ?_⟩
  · rw [hown.cellAt (M.length * 5) (by rw [List.length_append, List.length_singleton]; omega), ha.1, hml.2]
  · rw [hown.cellAt (M.length * 5 + 3) (by rw [List.length_append, List.length_singleton]; omega), ha.2.2.2.1, hml.2]
  · exact hown.frozenAt _

/-- The last node's text is another one. -/
theorem OwnC.text {w : World} {base lo g n c : Nat} {m : List Nd} {x : Nd} (h : OwnC w base lo (m ++ [x]) (.slice (some ⟨g, 0, none⟩) n c)) (t : ByteArray) :
    OwnC (w.setCell ⟨g, m.length * 5 + 3, none⟩ (.string t)) base lo (m ++ [.mk x.kind x.name x.attrs t x.kids]) (.slice (some ⟨g, 0, none⟩) n c) ∧ w.grownBy (w.setCell ⟨g, m.length * 5 + 3, none⟩ (.string t)) (some g) := by
  obtain ⟨R, hl, hown, hat, hk, hn⟩ := h
  obtain ⟨A, c', hv, _⟩ := own_size hown
  have hnl : n = R.length := by injection hv
  subst hnl
  have hR : 0 < R.length := by
    have := congrArg List.length hl
    simp at this
    omega
  obtain ⟨M, r, rfl⟩ := snoc_of hR
  have hml : M.map Rn.n = m ∧ r.n = x := by
    rw [List.map_append] at hl
    have := List.append_inj' hl (by simp)
    exact ⟨this.1, by simpa using this.2⟩
  have hlen : m.length = M.length := by rw [← hml.1]; simp
  have st := hown.stored (m.length * 5 + 3) (.string t)
  have hsz : (w.setCell ⟨g, m.length * 5 + 3, none⟩ (.string t)).heap.size = w.heap.size := by simp
  have kp : Kept (Sub lo w (.slice (some ⟨g, 0, none⟩) (M ++ [r]).length c)) w (w.setCell ⟨g, m.length * 5 + 3, none⟩ (.string t)) := Kept.grown st.2 fun b hb => ⟨hb.2.1, fun e => hb.2.2 (by injection e with e; subst e; rfl)⟩
  have hSS : ∀ b, Sub lo w (.slice (some ⟨g, 0, none⟩) (M ++ [r]).length c) b → Sub lo (w.setCell ⟨g, m.length * 5 + 3, none⟩ (.string t)) (.slice (some ⟨g, 0, none⟩) (M ++ [r]).length c) b := fun b hb => ⟨hb.1, by rw [hsz]; exact hb.2.1, hb.2.2⟩
  refine ⟨⟨M ++ [⟨.mk r.n.kind r.n.name r.n.attrs t r.n.kids, r.va, r.vk⟩], ?_, ?_, ?_, ?_, fun g hg hs => hs.2.2 hg⟩, st.2⟩
  · rw [List.map_append, hml.1, ← hml.2]
    rfl
  · have := st.1
    rw [hlen, ncells_set] at this
    rw [hlen]
    simpa using this
  · intro q hq
    rcases List.mem_append.1 hq with hq | hq
    · exact ((hat q (by simp [hq])).keep kp).mono hSS
    · simp at hq
      subst hq
      exact ((hat r (by simp)).keep kp).mono hSS
  · intro q hq
    rcases List.mem_append.1 hq with hq | hq
    · exact ((hk q (by simp [hq])).keep kp).mono hSS
    · simp at hq
      subst hq
      exact ((hk r (by simp)).keep kp).mono hSS

end Go.Proofs.Ytfdgmoakobjohaa

/- Part Norm. -/
namespace Go.Proofs.Ytfdgmoakobjohaa
set_option linter.unusedVariables false

theorem norm_13 (a : Int) (t : List Int) : norm a (13 :: t) = 10 :: norm 13 t := by simp [norm]
theorem norm_10 (t : List Int) : norm 13 (10 :: t) = norm 10 t := by simp [norm]
theorem norm_0 (a : Int) (t : List Int) : norm a (0 :: t) = 65533 :: norm 0 t := by simp [norm]
theorem norm_r {a r : Int} (t : List Int) (h1 : r ≠ 13) (h2 : ¬ (r = 10 ∧ a = 13)) (h3 : r ≠ 0) : norm a (r :: t) = r :: norm r t := by
  show (if r = 13 then [10] else if r = 10 ∧ a = 13 then [] else if r = 0 then [65533] else [r]) ++ norm r t = _
  rw [if_neg h1, if_neg h2, if_neg h3]
  rfl

end Go.Proofs.Ytfdgmoakobjohaa

/- Part MathV. -/
namespace Go.Proofs.Ytfdgmoakobjohaa
set_option linter.unusedVariables false

/-- May bytes begin as they do in a right text? -/
def okAt (l : List UInt8) : Bool := !(decide ((dec l).1 = 0) || decide ((dec l).1 = 13) || (decide ((dec l).1 = 65533) && !Lib.hasPrefix l [239, 191, 189]))

def isF : Nat → List UInt8 → Bool
  | 0, _ => true
  | f + 1, l => if l.length = 0 then true else okAt l && isF f (l.drop (dec l).2)
/-- Are bytes a right text? -/
def isB (l : List UInt8) : Bool := isF l.length l

theorem isF_fuel : ∀ (f g : Nat) (l : List UInt8), l.length ≤ f → l.length ≤ g → isF f l = isF g l
  | 0, 0, l, _, _ => rfl
  | 0, g + 1, l, h, _ => by
    have : l.length = 0 := by omega
    simp [isF, this]
  | f + 1, 0, l, _, h => by
    have : l.length = 0 := by omega
    simp [isF, this]
  | f + 1, g + 1, l, hf, hg => by
    unfold isF
    by_cases h0 : l.length = 0
    · rw [if_pos h0, if_pos h0]
    · have hw := dec_width (l := l) (by omega)
      rw [if_neg h0, if_neg h0, isF_fuel f g _ (by rw [List.length_drop]; omega) (by rw [List.length_drop]; omega)]

theorem isB_nil : isB [] = true := rfl
theorem isB_step {l : List UInt8} (h : 0 < l.length) : isB l = (okAt l && isB (l.drop (dec l).2)) := by
  have hw := dec_width h
  obtain ⟨m, hm⟩ : ∃ m, l.length = m + 1 := ⟨l.length - 1, by omega⟩
  unfold isB
  rw [hm]
  conv => lhs; unfold isF
  rw [if_neg (by omega), isF_fuel m _ _ (by rw [List.length_drop]; omega) (Nat.le_refl _)]

theorem isB_enc : ∀ L : List Int, (∀ r ∈ L, okN r) → isB (enc L) = true
  | [], _ => rfl
  | r :: L, h => by
    have hr := h r (by simp)
    have e := dec_enc hr.1 (enc L)
    have hn : 0 ≤ r := by have := hr.1; unfold okR at this; omega
    rw [enc_cons, isB_step (by have := (Lib.encodeRuneZ_length r).1; simp [Lib.encodeRune]; omega)]
    have e2 : (dec (Lib.encodeRune r ++ enc L)).2 = (Lib.encodeRune r).length := by rw [e]
    rw [e2, List.drop_left, isB_enc L (fun x hx => h x (by simp [hx])), Bool.and_true]
    unfold okAt
    rw [e]
    have h0 := hr.2.1
    have h13 := hr.2.2
    by_cases h6 : r = 65533
    · subst h6
      have e1 : Lib.encodeRune 65533 = [239, 191, 189] := by decide
      rw [e1]
      simp [Lib.hasPrefix]
    · have a1 : ¬ r.toNat = 0 := by omega
      have a2 : ¬ r.toNat = 13 := by omega
      have a3 : ¬ r.toNat = 65533 := by omega
      simp [a1, a2, a3]

theorem right_len (l : List UInt8) : (right l).length ≤ 4 * l.length := by
  have h1 := runes_len _ l (Nat.le_refl _)
  have h2 := norm_len (runes l) 0
  have h3 := enc_len (norm 0 (runes l))
  unfold right
  omega

theorem isB_right (l : List UInt8) : isB (right l) = true := isB_enc _ (norm_ok (runes l) 0 (runes_ok _ l (Nat.le_refl _)))

theorem isB_join (a b : List UInt8) : isB (right a ++ right b) = true := by
  unfold right
  rw [← enc_append]
  refine isB_enc _ (fun r hr => ?_)
  rcases List.mem_append.1 hr with h | h
  · exact norm_ok (runes a) 0 (runes_ok _ a (Nat.le_refl _)) r h
  · exact norm_ok (runes b) 0 (runes_ok _ b (Nat.le_refl _)) r h

theorem runes_right (a : List UInt8) : runes (right a) = norm 0 (runes a) := runes_enc _ (fun r hr => (norm_ok (runes a) 0 (runes_ok _ a (Nat.le_refl _)) r hr).1)

theorem runes_join (a b : List UInt8) : runes (right a ++ right b) = runes (right a) ++ runes (right b) := by
  rw [runes_right, runes_right]
  unfold right
  rw [← enc_append]
  refine runes_enc _ (fun r hr => ?_)
  rcases List.mem_append.1 hr with h | h
  · exact (norm_ok (runes a) 0 (runes_ok _ a (Nat.le_refl _)) r h).1
  · exact (norm_ok (runes b) 0 (runes_ok _ b (Nat.le_refl _)) r h).1

end Go.Proofs.Ytfdgmoakobjohaa

/- Part MathW. -/
namespace Go.Proofs.Ytfdgmoakobjohaa
set_option linter.unusedVariables false

theorem u8_of {c : UInt8} {x : Int} (h : x = (c.toNat : Int)) : x.toNat.toUInt8 = c := by
  subst h
  simp

theorem byt_at {l : List UInt8} {k : Nat} {c : UInt8} (h : l[k]? = some c) : byt l k = c.toNat := by
  unfold byt
  rw [List.getD_eq_getElem?_getD, h]
  rfl

theorem cont_nat {l : List UInt8} {k : Nat} (h : cont l k = true) : byt l k / 64 = 2 := by
  unfold cont at h
  simp at h
  exact h.2

theorem pre_wrong {l : List UInt8} (h : Lib.hasPrefix l [239, 191, 189] = true) : ∃ t, l = 239 :: 191 :: 189 :: t := by
  unfold Lib.hasPrefix at h
  match l, h with
  | [], h => simp [List.isPrefixOf] at h
  | [a], h => simp [List.isPrefixOf] at h
  | [a, b], h => simp [List.isPrefixOf] at h
  | a :: b :: c :: t, h =>
    simp [List.isPrefixOf] at h
    exact ⟨t, by rw [h.1, h.2.1, h.2.2]⟩

theorem dec_wrong (t : List UInt8) : dec (239 :: 191 :: 189 :: t) = (65533, 3) := by
  have b0 : byt (239 :: 191 :: 189 :: t) 0 = 239 := rfl
  have b1 : byt (239 :: 191 :: 189 :: t) 1 = 191 := rfl
  have b2 : byt (239 :: 191 :: 189 :: t) 2 = 189 := rfl
  have c1 : cont (239 :: 191 :: 189 :: t) 1 = true := by unfold cont; rw [b1]; simp
  have c2 : cont (239 :: 191 :: 189 :: t) 2 = true := by unfold cont; rw [b2]; simp
  unfold dec
  rw [b0, b1, b2, c1, c2]
  rfl

theorem two_more {a : UInt8} {l : List UInt8} (h : 2 < (a :: l).length) : ∃ b c l', l = b :: c :: l' := by
  match l, h with
  | [], h => simp at h
  | [b], h => simp at h
  | b :: c :: l', _ => exact ⟨b, c, l', rfl⟩
theorem three_more {a : UInt8} {l : List UInt8} (h : 3 < (a :: l).length) : ∃ b c d l', l = b :: c :: d :: l' := by
  match l, h with
  | [], h => simp at h
  | [b], h => simp at h
  | [b, c], h => simp at h
  | b :: c :: d :: l', _ => exact ⟨b, c, d, l', rfl⟩

theorem enc_dec {l : List UInt8} (h0 : 0 < l.length) (h : okAt l = true) : Lib.encodeRune ((dec l).1 : Int) = l.take (dec l).2 := by
  by_cases hp : Lib.hasPrefix l [239, 191, 189] = true
  · obtain ⟨t, rfl⟩ := pre_wrong hp
    rw [dec_wrong]
    rfl
  have hw : (dec l).1 ≠ 65533 := by
    intro e
    unfold okAt at h
    rw [e] at h
    simp at h
    exact hp h
  match l, h0 with
  | a :: l, _ =>
    have b0 : byt (a :: l) 0 = a.toNat := rfl
    have ha := a.toNat_lt
    unfold dec at hw ⊢
    rw [b0] at hw ⊢
    split
    · rename_i h1
      simp only [List.take_succ_cons, List.take_zero]
      unfold Lib.encodeRune
      rw [Lib.encodeRuneZ_one (by omega) (by omega)]
      simp only [List.map_cons, List.map_nil]
      rw [u8_of rfl]
    · rename_i h1
      rw [if_neg h1] at hw
      split
      · rename_i h2
        rw [if_pos h2] at hw
        have k1 := byt_len h2.2
        have n1 := cont_nat h2.2
        obtain ⟨b, l', rfl⟩ : ∃ b l', l = b :: l' := by cases l with | nil => simp at k1 | cons b l' => exact ⟨b, l', rfl⟩
        have b1 : byt (a :: b :: l') 1 = b.toNat := rfl
        rw [b1] at hw n1 ⊢
        split
        · rename_i h3
          simp only [List.take_succ_cons, List.take_zero]
          unfold Lib.encodeRune
          rw [Lib.encodeRuneZ_two (by omega) (by omega)]
          simp only [List.map_cons, List.map_nil]
          rw [u8_of (c := a) (by omega), u8_of (c := b) (by omega)]
        · rename_i h3; rw [if_neg h3] at hw; exact absurd rfl hw
      · rename_i h2
        rw [if_neg h2] at hw
        split
        · rename_i h3
          rw [if_pos h3] at hw
          have k1 := byt_len h3.2.1
          have k2 := byt_len h3.2.2
          have n1 := cont_nat h3.2.1
          have n2 := cont_nat h3.2.2
          obtain ⟨b, c, l', rfl⟩ := two_more k2
          have b1 : byt (a :: b :: c :: l') 1 = b.toNat := rfl
          have b2 : byt (a :: b :: c :: l') 2 = c.toNat := rfl
          rw [b1] at hw n1 ⊢
          rw [b2] at hw n2 ⊢
          split
          · rename_i h4
            simp only [List.take_succ_cons, List.take_zero]
            unfold Lib.encodeRune
            rw [Lib.encodeRuneZ_three (by omega)]
            simp only [List.map_cons, List.map_nil]
            have e1 : (224 + (((a.toNat % 16 * 4096 + b.toNat % 64 * 64 + c.toNat % 64 : Nat) : Int)) / 4096) = (a.toNat : Int) := by omega
            have e2 : (128 + (((a.toNat % 16 * 4096 + b.toNat % 64 * 64 + c.toNat % 64 : Nat) : Int)) / 64 % 64) = (b.toNat : Int) := by omega
            have e3 : (128 + (((a.toNat % 16 * 4096 + b.toNat % 64 * 64 + c.toNat % 64 : Nat) : Int)) % 64) = (c.toNat : Int) := by omega
            rw [u8_of e1, u8_of e2, u8_of e3]
          · rename_i h4; rw [if_neg h4] at hw; exact absurd rfl hw
        · rename_i h3
          rw [if_neg h3] at hw
          split
          · rename_i h4
            rw [if_pos h4] at hw
            have k3 := byt_len h4.2.2.2
            have n1 := cont_nat h4.2.1
            have n2 := cont_nat h4.2.2.1
            have n3 := cont_nat h4.2.2.2
            obtain ⟨b, c, d, l', rfl⟩ := three_more k3
            have b1 : byt (a :: b :: c :: d :: l') 1 = b.toNat := rfl
            have b2 : byt (a :: b :: c :: d :: l') 2 = c.toNat := rfl
            have b3 : byt (a :: b :: c :: d :: l') 3 = d.toNat := rfl
            rw [b1] at hw n1 ⊢
            rw [b2] at hw n2 ⊢
            rw [b3] at hw n3 ⊢
            split
            · rename_i h5
              simp only [List.take_succ_cons, List.take_zero]
              unfold Lib.encodeRune
              rw [Lib.encodeRuneZ_four (by omega) (by omega)]
              simp only [List.map_cons, List.map_nil]
              have e1 : (240 + (((a.toNat % 8 * 262144 + b.toNat % 64 * 4096 + c.toNat % 64 * 64 + d.toNat % 64 : Nat) : Int)) / 262144) = (a.toNat : Int) := by omega
              have e2 : (128 + (((a.toNat % 8 * 262144 + b.toNat % 64 * 4096 + c.toNat % 64 * 64 + d.toNat % 64 : Nat) : Int)) / 4096 % 64) = (b.toNat : Int) := by omega
              have e3 : (128 + (((a.toNat % 8 * 262144 + b.toNat % 64 * 4096 + c.toNat % 64 * 64 + d.toNat % 64 : Nat) : Int)) / 64 % 64) = (c.toNat : Int) := by omega
              have e4 : (128 + (((a.toNat % 8 * 262144 + b.toNat % 64 * 4096 + c.toNat % 64 * 64 + d.toNat % 64 : Nat) : Int)) % 64) = (d.toNat : Int) := by omega
              rw [u8_of e1, u8_of e2, u8_of e3, u8_of e4]
            · rename_i h5; rw [if_neg h5] at hw; exact absurd rfl hw
          · rename_i h4; rw [if_neg h4] at hw; exact absurd rfl hw

/-- A right text is the text of characters that may stand in one. -/
theorem isB_chars : ∀ (n : Nat) (l : List UInt8), l.length ≤ n → isB l = true → ∃ L, (∀ r ∈ L, okN r) ∧ l = enc L
  | 0, l, h, _ => ⟨[], by simp, List.eq_nil_of_length_eq_zero (by omega)⟩
  | n + 1, l, h, hb => by
    by_cases h0 : l.length = 0
    · exact ⟨[], by simp, List.eq_nil_of_length_eq_zero h0⟩
    · have hw := dec_width (l := l) (by omega)
      rw [isB_step (by omega), Bool.and_eq_true] at hb
      obtain ⟨L, ok, e⟩ := isB_chars n (l.drop (dec l).2) (by rw [List.length_drop]; omega) hb.2
      have he := enc_dec (l := l) (by omega) hb.1
      refine ⟨((dec l).1 : Int) :: L, ?_, ?_⟩
      · intro r hr
        rcases List.mem_cons.1 hr with rfl | hr
        · have h1 := hb.1
          unfold okAt at h1
          simp at h1
          exact ⟨dec_ok l, by omega, by omega⟩
        · exact ok r hr
      · rw [enc_cons, he, ← e, List.take_append_drop]

theorem right_of_isB {l : List UInt8} (h : isB l = true) : right l = l := by
  obtain ⟨L, ok, rfl⟩ := isB_chars _ l (Nat.le_refl _) h
  unfold right
  rw [runes_enc _ (fun r hr => (ok r hr).1), norm_same _ 0 (by omega) ok]
theorem isB_iff (l : List UInt8) : isB l = decide (right l = l) := by
  by_cases h : right l = l
  · rw [decide_eq_true h, ← h, isB_right]
  · rw [decide_eq_false h]
    cases hb : isB l with
    | false => rfl
    | true => exact absurd (right_of_isB hb) h

end Go.Proofs.Ytfdgmoakobjohaa

/- Part NamM. -/
namespace Go.Proofs.Ytfdgmoakobjohaa
set_option linter.unusedVariables false

/-- A letter a to z; a byte of an element's name; one that an attribute's name may have. -/
def smC (c : UInt8) : Bool := decide (97 ≤ c.toNat) && decide (c.toNat ≤ 122)
def namC (c : UInt8) : Bool := smC c || (decide (48 ≤ c.toNat) && decide (c.toNat ≤ 57)) || decide (c.toNat = 45)
def attC (c : UInt8) : Bool := !((decide (65 ≤ c.toNat) && decide (c.toNat ≤ 90)) || decide (c.toNat = 9) || decide (c.toNat = 10) || decide (c.toNat = 12) || decide (c.toNat = 32) || decide (c.toNat = 47) || decide (c.toNat = 62) || decide (c.toNat = 61))
def namedB : List UInt8 → Bool
  | [] => false
  | c :: t => smC c && (c :: t).all namC
def attrB (l : List UInt8) : Bool := isB l && l.all attC && !l.isEmpty
def voidB (l : List UInt8) : Bool := decide (l = [98, 114]) || decide (l = [104, 114]) || decide (l = [105, 109, 103]) || decide (l = [105, 110, 112, 117, 116]) || decide (l = [119, 98, 114])
def rawB (l : List UInt8) : Bool := decide (l = [115, 99, 114, 105, 112, 116]) || decide (l = [115, 116, 121, 108, 101])

theorem all_false {p : UInt8 → Bool} {l : List UInt8} {k : Nat} {c : UInt8} (h : l[k]? = some c) (hp : p c = false) : l.all p = false := by
  rw [List.all_eq_false]
  exact ⟨c, List.mem_of_getElem? h, by rw [hp]; simp⟩
theorem all_snoc (p : UInt8 → Bool) (l : List UInt8) (c : UInt8) : (l ++ [c]).all p = (l.all p && p c) := by simp

/-- A name's bytes are below 128: it is right. -/
theorem asc_right : ∀ (l : List UInt8), (∀ c ∈ l, c.toNat < 128 ∧ c.toNat ≠ 0 ∧ c.toNat ≠ 13) → isB l = true
  | [], _ => rfl
  | c :: t, h => by
    have hc := h c (by simp)
    have e : dec (c :: t) = (c.toNat, 1) := by
      unfold dec
      have e : byt (c :: t) 0 = c.toNat := rfl
      rw [e, if_pos hc.1]
    rw [isB_step (by simp)]
    unfold okAt
    rw [e]
    simp only [List.drop_succ_cons, List.drop_zero]
    rw [asc_right t (fun x hx => h x (by simp [hx]))]
    have h1 : ¬ c.toNat = 65533 := by omega
    simp [hc.2.1, hc.2.2, h1]
theorem namC_asc {c : UInt8} (h : namC c = true) : c.toNat < 128 ∧ c.toNat ≠ 0 ∧ c.toNat ≠ 13 := by
  unfold namC smC at h
  simp at h
  omega
theorem namedB_right {l : List UInt8} (h : namedB l = true) : isB l = true := by
  refine asc_right l fun c hc => ?_
  cases l with
  | nil => cases hc
  | cons a t =>
    unfold namedB at h
    rw [Bool.and_eq_true, List.all_eq_true] at h
    exact namC_asc (h.2 c hc)

end Go.Proofs.Ytfdgmoakobjohaa

/- Part TxtM. -/
namespace Go.Proofs.Ytfdgmoakobjohaa
set_option linter.unusedVariables false

/-- An attribute's text. -/
def attT (a : ByteArray × ByteArray) : List UInt8 := 32 :: (a.1.data.toList ++ (61 :: 34 :: (escB true a.2.data.toList ++ [34])))
/-- What stands ahead of an element's kids, and behind them. -/
def openT (n : Nd) : List UInt8 := 60 :: (n.name.data.toList ++ (n.attrs.flatMap attT ++ [62]))
def closeT (n : Nd) : List UInt8 := 60 :: 47 :: (n.name.data.toList ++ [62])
/-- What is told ahead of, and behind, any node's kids. -/
def openE (n : Nd) : List UInt8 := if n.kind = 1 then openT n else []
def closeE (n : Nd) : List UInt8 := if n.kind = 1 ∧ voidB n.name.data.toList = false then closeT n else []
mutual
/-- A node's text; raw: it stands in a raw element. -/
def txtN (raw : Bool) : Nd → List UInt8
  | .mk k nm a t ks =>
    if k = 3 then 60 :: 33 :: 45 :: 45 :: (t.data.toList ++ [45, 45, 62])
    else if k = 2 then (if raw = true then t.data.toList else escB false t.data.toList)
    else if k = 1 then
      (if voidB nm.data.toList = true then openT (.mk k nm a t ks) else openT (.mk k nm a t ks) ++ (txtL (rawB nm.data.toList) ks ++ closeT (.mk k nm a t ks)))
    else []
/-- Nodes' text. -/
def txtL (raw : Bool) : List Nd → List UInt8
  | [] => []
  | n :: l => txtN raw n ++ txtL raw l
end
theorem txtN_eq (raw : Bool) (n : Nd) : txtN raw n =
    if n.kind = 3 then 60 :: 33 :: 45 :: 45 :: (n.text.data.toList ++ [45, 45, 62])
    else if n.kind = 2 then (if raw = true then n.text.data.toList else escB false n.text.data.toList)
    else if n.kind = 1 then (if voidB n.name.data.toList = true then openT n else openT n ++ (txtL (rawB n.name.data.toList) n.kids ++ closeT n))
    else [] := by
  cases n
  simp only [txtN, Nd.kind, Nd.name, Nd.text, Nd.kids]
  rfl
theorem txtL_nil (raw : Bool) : txtL raw [] = [] := by simp [txtL]
theorem txtL_cons (raw : Bool) (n : Nd) (l : List Nd) : txtL raw (n :: l) = txtN raw n ++ txtL raw l := by simp [txtL]
theorem txtL_append (raw : Bool) : ∀ (a b : List Nd), txtL raw (a ++ b) = txtL raw a ++ txtL raw b
  | [], b => by simp [txtL_nil]
  | x :: a, b => by rw [List.cons_append, txtL_cons, txtL_cons, txtL_append raw a b, List.append_assoc]
theorem txtL_take {raw : Bool} {l : List Nd} {k : Nat} {n : Nd} (h : l[k]? = some n) : txtL raw (l.take (k + 1)) = txtL raw (l.take k) ++ txtN raw n := by
  rw [List.take_add_one, h, txtL_append]
  simp [txtL_cons, txtL_nil]

theorem attT_len (a : ByteArray × ByteArray) : (attT a).length ≤ 6 * (10 + a.1.size + a.2.size) := by
  have h := (escB_len true a.2.data.toList).2
  have h1 : a.1.data.toList.length = a.1.size := by simp
  have h2 : a.2.data.toList.length = a.2.size := by simp
  unfold attT
  simp only [List.length_cons, List.length_append, List.length_nil]
  omega
theorem atts_len : ∀ l : List (ByteArray × ByteArray), (l.flatMap attT).length ≤ 6 * szA l
  | [] => by simp
  | a :: l => by
    have h1 := attT_len a
    have h2 := atts_len l
    rw [List.flatMap_cons, List.length_append, szA]
    omega
theorem openT_len (n : Nd) : (openT n).length ≤ 6 * (n.name.size + szA n.attrs) + 2 := by
  have h1 := atts_len n.attrs
  have h2 : n.name.data.toList.length = n.name.size := by simp
  unfold openT
  simp only [List.length_cons, List.length_append, List.length_nil]
  omega
theorem closeT_len (n : Nd) : (closeT n).length = n.name.size + 3 := by
  have h2 : n.name.data.toList.length = n.name.size := by simp
  unfold closeT
  simp only [List.length_cons, List.length_append, List.length_nil]
  omega

/-- A list's text is bounded by the list's size. -/
theorem txt_len : ∀ l : List Nd, ∀ raw, (txtL raw l).length ≤ 7 * szL l := by
  intro l
  induction l using nd_ind with
  | h l ih =>
    intro raw
    have key : ∀ m : List Nd, (∀ x ∈ m, ∀ r, (txtL r x.kids).length ≤ 7 * szL x.kids) → (txtL raw m).length ≤ 7 * szL m := by
      intro m
      induction m with
      | nil => intro _; simp [txtL_nil]
      | cons x m ihm =>
        intro h
        have h1 := ihm fun y hy => h y (by simp [hy])
        have h2 := h x (by simp) (rawB x.name.data.toList)
        have h3 := szN_eq x
        have h4 := openT_len x
        have h5 := closeT_len x
        have h6 := (escB_len false x.text.data.toList).2
        have h7 : x.text.data.toList.length = x.text.size := by simp
        have h8 : (txtN raw x).length ≤ 7 * szN x := by
          rw [txtN_eq]
          split
          · simp only [List.length_cons, List.length_append, List.length_nil]; omega
          · split
            · split <;> omega
            · split
              · split
                · omega
                · simp only [List.length_append]; omega
              · simp
        rw [txtL_cons, szL_cons, List.length_append]
        omega
    exact key l fun x hx => by
      obtain ⟨i, hi, he⟩ := List.mem_iff_getElem.1 hx
      exact ih i x (by rw [List.getElem?_eq_getElem hi, he])

/-! ### all texts -/
mutual
def plainN : Nd → List UInt8
  | .mk k _ _ t ks => (if k = 2 then t.data.toList else []) ++ plainL ks
def plainL : List Nd → List UInt8
  | [] => []
  | n :: l => plainN n ++ plainL l
end
theorem plainN_eq (n : Nd) : plainN n = (if n.kind = 2 then n.text.data.toList else []) ++ plainL n.kids := by
  cases n
  simp only [plainN, Nd.kind, Nd.text, Nd.kids]
  rfl
theorem plainL_nil : plainL [] = [] := by simp [plainL]
theorem plainL_cons (n : Nd) (l : List Nd) : plainL (n :: l) = plainN n ++ plainL l := by simp [plainL]
theorem plainL_append : ∀ (a b : List Nd), plainL (a ++ b) = plainL a ++ plainL b
  | [], b => by simp [plainL_nil]
  | x :: a, b => by rw [List.cons_append, plainL_cons, plainL_cons, plainL_append a b, List.append_assoc]
theorem plainL_take {l : List Nd} {k : Nat} {n : Nd} (h : l[k]? = some n) : plainL (l.take (k + 1)) = plainL (l.take k) ++ plainN n := by
  rw [List.take_add_one, h, plainL_append]
  simp [plainL_cons, plainL_nil]
theorem plain_len : ∀ l : List Nd, (plainL l).length ≤ szL l := by
  intro l
  induction l using nd_ind with
  | h l ih =>
    have key : ∀ m : List Nd, (∀ x ∈ m, (plainL x.kids).length ≤ szL x.kids) → (plainL m).length ≤ szL m := by
      intro m
      induction m with
      | nil => intro _; simp [plainL_nil]
      | cons x m ihm =>
        intro h
        have h1 := ihm fun y hy => h y (by simp [hy])
        have h2 := h x (by simp)
        have h3 := szN_eq x
        have h7 : x.text.data.toList.length = x.text.size := by simp
        have h8 : (plainN x).length ≤ szN x := by
          rw [plainN_eq, List.length_append]
          split
          · omega
          · simp; omega
        rw [plainL_cons, szL_cons, List.length_append]
        omega
    exact key l fun x hx => by
      obtain ⟨i, hi, he⟩ := List.mem_iff_getElem.1 hx
      exact ih i x (by rw [List.getElem?_eq_getElem hi, he])

end Go.Proofs.Ytfdgmoakobjohaa
