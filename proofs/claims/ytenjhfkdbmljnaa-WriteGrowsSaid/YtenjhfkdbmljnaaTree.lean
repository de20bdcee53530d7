/- Nodes as trees in memory: where they lie, that they stay; a list of nodes, and one of attributes, that the call itself makes. -/
import Derived.Test.YtenjhfkdbmljnaaMemC
import Derived.Test.YtenjhfkdbmljnaaTreeM
import Derived.ArgAppend
import Derived.OwnWalk
import Derived.Laws.OwnMore
namespace Go.Proofs.Ytenjhfkdbmljnaa
open Go.RowKit
set_option linter.unusedVariables false

/-! ### rows of cells, in blocks of a kind -/
/-- The slice with address A holds the cells xs; they lie in a block of S. -/
def Cells (S : Nat → Prop) (w : World) (A : Option Addr) (xs : List Value) : Prop :=
  0 < xs.length → ∃ b o, A = some ⟨b, o, none⟩ ∧ S b ∧ ∀ j u, xs[j]? = some u → w.cell? ⟨b, o + j, none⟩ = some u

/-- Two worlds hold the same cells in the blocks of S. -/
def Kept (S : Nat → Prop) (w w' : World) : Prop := ∀ b, S b → ∀ j, w'.cell? ⟨b, j, none⟩ = w.cell? ⟨b, j, none⟩

theorem Kept.below {S : Nat → Prop} {w w' : World} (hb : Below w.heap.size w w') (hS : ∀ b, S b → b < w.heap.size) : Kept S w w' := fun b hs j => hb.cell (p := ⟨b, j, none⟩) (hS b hs)
theorem Kept.belowB {S : Nat → Prop} {w w' : World} {B : Nat} (hb : Below B w w') (hS : ∀ b, S b → b < B) : Kept S w w' := fun b hs j => hb.cell (p := ⟨b, j, none⟩) (hS b hs)
theorem Kept.grown {S : Nat → Prop} {w w' : World} {row : Option Nat} (hg : w.grownBy w' row) (hS : ∀ b, S b → b < w.heap.size ∧ some b ≠ row) : Kept S w w' :=
  fun b hs j => World.cell?_of_block (a := ⟨b, j, none⟩) (hg.block b (hS b hs).1 (hS b hs).2)
theorem Kept.mono {S S' : Nat → Prop} {w w' : World} (h : Kept S' w w') (hS : ∀ b, S b → S' b) : Kept S w w' := fun b hs => h b (hS b hs)
theorem Kept.trans {S : Nat → Prop} {w w' w'' : World} (h : Kept S w w') (h' : Kept S w' w'') : Kept S w w'' := fun b hs j => (h' b hs j).trans (h b hs j)
theorem Kept.refl (S : Nat → Prop) (w : World) : Kept S w w := fun _ _ _ => rfl

theorem Cells.nil (S : Nat → Prop) (w : World) (A : Option Addr) : Cells S w A [] := fun h => absurd h (by simp)
theorem Cells.keep {S : Nat → Prop} {w w' : World} {A : Option Addr} {xs : List Value} (h : Cells S w A xs) (hk : Kept S w w') : Cells S w' A xs := by
  intro hx
  obtain ⟨b, o, hA, hb, hc⟩ := h hx
  exact ⟨b, o, hA, hb, fun j u hu => (hk b hb _).trans (hc j u hu)⟩
theorem Cells.mono {S S' : Nat → Prop} {w : World} {A : Option Addr} {xs : List Value} (h : Cells S w A xs) (hS : ∀ b, S b → S' b) : Cells S' w A xs := by
  intro hx
  obtain ⟨b, o, hA, hb, hc⟩ := h hx
  exact ⟨b, o, hA, hS b hb, hc⟩
theorem Cells.take {S : Nat → Prop} {w : World} {A : Option Addr} {xs : List Value} (h : Cells S w A xs) (n : Nat) : Cells S w A (xs.take n) := by
  intro hx
  obtain ⟨b, o, hA, hb, hc⟩ := h (by rw [List.length_take] at hx; omega)
  refine ⟨b, o, hA, hb, fun j u hu => hc j u ?_⟩
  rw [List.getElem?_take] at hu
  split at hu
  · exact hu
  · cases hu
/-- What the call owns can be read, in its own block. -/
theorem Cells.own {w : World} {base size : Nat} {e : TypeId} {A : Option Addr} {n c : Nat} {xs : List Value} (h : w.ownsRow base e size (.slice A n c) n xs) : Cells (fun b => (Value.slice A n c).ownBlock = some b) w A xs := by
  intro hx
  rcases h.2 with ⟨_, h0⟩ | ⟨g, cap, cur, hv, hg, hh, hnc, hcm, hcs, hct⟩
  · have := h.1
    rw [h0] at this
    simp at this
    rw [this] at hx
    simp at hx
  · have hA : A = some ⟨g, 0, none⟩ := by injection hv
    have hc : c = cap := by injection hv
    subst hA
    subst hc
    refine ⟨g, 0, rfl, rfl, fun j u hu => ?_⟩
    rw [Nat.zero_add]
    have hj : j < n * size := by rw [← h.1]; exact (List.getElem?_eq_some_iff.1 hu).1
    rw [h.cellAt j hj]
    exact hu

/-! ### attributes -/
def acells (l : List (ByteArray × ByteArray)) : List Value := l.flatMap fun a => [.string a.1, .string a.2]
theorem acells_nil : acells [] = [] := rfl
theorem acells_append (a b : List (ByteArray × ByteArray)) : acells (a ++ b) = acells a ++ acells b := by simp [acells]
theorem acells_cons (a : ByteArray × ByteArray) (l : List (ByteArray × ByteArray)) : acells (a :: l) = .string a.1 :: .string a.2 :: acells l := by simp [acells]
theorem acells_length : ∀ l, (acells l).length = l.length * 2
  | [] => rfl
  | a :: l => by rw [acells_cons, List.length_cons, List.length_cons, acells_length l, List.length_cons]; omega
theorem acells_at : ∀ {l : List (ByteArray × ByteArray)} {k : Nat} {x : ByteArray × ByteArray}, l[k]? = some x → (acells l)[k * 2]? = some (.string x.1) ∧ (acells l)[k * 2 + 1]? = some (.string x.2)
  | [], k, x, h => by simp at h
  | a :: l, 0, x, h => by
    simp at h
    subst h
    rw [acells_cons]
    exact ⟨rfl, rfl⟩
  | a :: l, k + 1, x, h => by
    have := acells_at (l := l) (k := k) (x := x) (by simpa using h)
    rw [acells_cons, show (k + 1) * 2 = k * 2 + 1 + 1 by omega]
    simpa using this

def AttrsAt (S : Nat → Prop) (w : World) (l : List (ByteArray × ByteArray)) (v : Value) : Prop :=
  ∃ A c, v = .slice A l.length c ∧ l.length ≤ c ∧ Cells S w A (acells l)
theorem AttrsAt.keep {S : Nat → Prop} {w w' : World} {l : List (ByteArray × ByteArray)} {v : Value} (h : AttrsAt S w l v) (hk : Kept S w w') : AttrsAt S w' l v := by
  obtain ⟨A, c, hv, hc, hx⟩ := h
  exact ⟨A, c, hv, hc, hx.keep hk⟩
theorem AttrsAt.mono {S S' : Nat → Prop} {w : World} {l : List (ByteArray × ByteArray)} {v : Value} (h : AttrsAt S w l v) (hS : ∀ b, S b → S' b) : AttrsAt S' w l v := by
  obtain ⟨A, c, hv, hc, hx⟩ := h
  exact ⟨A, c, hv, hc, hx.mono hS⟩
theorem AttrsAt.nil (S : Nat → Prop) (w : World) : AttrsAt S w [] (.slice none 0 0) := ⟨none, 0, rfl, Nat.le_refl _, Cells.nil _ _ _⟩
/-- An attribute's two cells. -/
theorem AttrsAt.at_ {S : Nat → Prop} {w : World} {l : List (ByteArray × ByteArray)} {v : Value} (h : AttrsAt S w l v) (hl : 0 < l.length) :
    ∃ b o c, v = .slice (some ⟨b, o, none⟩) l.length c ∧ l.length ≤ c ∧ S b ∧ ∀ k x, l[k]? = some x → w.cell? ⟨b, o + k * 2, none⟩ = some (.string x.1) ∧ w.cell? ⟨b, o + k * 2 + 1, none⟩ = some (.string x.2) := by
  obtain ⟨A, c, hv, hc, hx⟩ := h
  obtain ⟨b, o, rfl, hS, hcell⟩ := hx (by rw [acells_length]; omega)
  refine ⟨b, o, c, hv, hc, hS, fun k x hk => ?_⟩
  have := acells_at hk
  exact ⟨hcell _ _ this.1, by rw [Nat.add_assoc]; exact hcell _ _ this.2⟩

/-! ### nodes -/
/-- A node with the values of its two lists. -/
structure Rn where
  n : Nd
  va : Value
  vk : Value

def ncells1 (r : Rn) : List Value := [.int .i64 r.n.kind, .string r.n.name, r.va, .string r.n.text, r.vk]
def ncells (R : List Rn) : List Value := R.flatMap ncells1
theorem ncells_nil : ncells [] = [] := rfl
theorem ncells_append (a b : List Rn) : ncells (a ++ b) = ncells a ++ ncells b := by simp [ncells]
theorem ncells_cons (r : Rn) (R : List Rn) : ncells (r :: R) = .int .i64 r.n.kind :: .string r.n.name :: r.va :: .string r.n.text :: r.vk :: ncells R := by simp [ncells, ncells1]
theorem ncells_length : ∀ R, (ncells R).length = R.length * 5
  | [] => rfl
  | r :: R => by rw [ncells_cons]; simp only [List.length_cons]; rw [ncells_length R]; omega
theorem ncells_at : ∀ {R : List Rn} {k : Nat} {r : Rn}, R[k]? = some r → (ncells R)[k * 5]? = some (.int .i64 r.n.kind) ∧ (ncells R)[k * 5 + 1]? = some (.string r.n.name) ∧ (ncells R)[k * 5 + 2]? = some r.va ∧ (ncells R)[k * 5 + 3]? = some (.string r.n.text) ∧ (ncells R)[k * 5 + 4]? = some r.vk
  | [], k, r, h => by simp at h
  | a :: R, 0, r, h => by
    simp at h
    subst h
    rw [ncells_cons]
    exact ⟨rfl, rfl, rfl, rfl, rfl⟩
  | a :: R, k + 1, r, h => by
    have := ncells_at (R := R) (k := k) (r := r) (by simpa using h)
    rw [ncells_cons, show (k + 1) * 5 = k * 5 + 1 + 1 + 1 + 1 + 1 by omega]
    simpa using this

/-- The slice v holds the nodes l, with all that hangs on them, in blocks of S. -/
inductive Tree (S : Nat → Prop) (w : World) : List Nd → Value → Prop
  | mk (R : List Rn) (l : List Nd) (A : Option Addr) (c : Nat) (hl : R.map Rn.n = l) (hc : l.length ≤ c) (hcell : Cells S w A (ncells R))
      (hat : ∀ r ∈ R, AttrsAt S w r.n.attrs r.va) (hk : ∀ r ∈ R, Tree S w r.n.kids r.vk) : Tree S w l (.slice A l.length c)

theorem Tree.keep {S : Nat → Prop} {w w' : World} {l : List Nd} {v : Value} (h : Tree S w l v) (hk : Kept S w w') : Tree S w' l v := by
  induction h with
  | mk R l A c hl hc hcell hat hkids ih => exact .mk R l A c hl hc (hcell.keep hk) (fun r hr => (hat r hr).keep hk) ih
theorem Tree.mono {S S' : Nat → Prop} {w : World} {l : List Nd} {v : Value} (h : Tree S w l v) (hS : ∀ b, S b → S' b) : Tree S' w l v := by
  induction h with
  | mk R l A c hl hc hcell hat hkids ih => exact .mk R l A c hl hc (hcell.mono hS) (fun r hr => (hat r hr).mono hS) ih
theorem Tree.stay {w w' : World} {B : Nat} {l : List Nd} {v : Value} (h : Tree (· < B) w l v) (hb : Below B w w') : Tree (· < B) w' l v := h.keep (Kept.belowB hb fun _ h => h)
theorem Tree.nil (S : Nat → Prop) (w : World) : Tree S w [] (.slice none 0 0) := .mk [] [] none 0 rfl (Nat.le_refl _) (Cells.nil _ _ _) (by simp) (by simp)

/-- A node's cells, and what hangs on it. -/
structure NodeAt (S : Nat → Prop) (w : World) (b o : Nat) (n : Nd) (va vk : Value) : Prop where
  c0 : w.cell? ⟨b, o, none⟩ = some (.int .i64 n.kind)
  c1 : w.cell? ⟨b, o + 1, none⟩ = some (.string n.name)
  c2 : w.cell? ⟨b, o + 2, none⟩ = some va
  c3 : w.cell? ⟨b, o + 3, none⟩ = some (.string n.text)
  c4 : w.cell? ⟨b, o + 4, none⟩ = some vk
  at_ : AttrsAt S w n.attrs va
  kids : Tree S w n.kids vk

theorem Tree.shape {S : Nat → Prop} {w : World} {l : List Nd} {v : Value} (h : Tree S w l v) : ∃ A c, v = .slice A l.length c ∧ l.length ≤ c := by
  cases h with
  | mk R l A c hl hc hcell hat hkids => exact ⟨A, c, rfl, hc⟩

theorem Tree.open_ {S : Nat → Prop} {w : World} {l : List Nd} {v : Value} (h : Tree S w l v) (h0 : 0 < l.length) :
    ∃ b o c, v = .slice (some ⟨b, o, none⟩) l.length c ∧ l.length ≤ c ∧ S b ∧ ∀ k n, l[k]? = some n → ∃ va vk, NodeAt S w b (o + k * 5) n va vk := by
  cases h with
  | mk R l A c hl hc hcell hat hkids =>
    subst hl
    obtain ⟨b, o, rfl, hS, hx⟩ := hcell (by rw [ncells_length]; rw [List.length_map] at h0; omega)
    refine ⟨b, o, c, rfl, hc, hS, fun k n hn => ?_⟩
    rw [List.getElem?_map] at hn
    cases hr : R[k]? with
    | none => rw [hr] at hn; cases hn
    | some r =>
      rw [hr] at hn
      injection hn with hn
      subst hn
      have hm := List.mem_of_getElem? hr
      have ha := ncells_at hr
      refine ⟨r.va, r.vk, hx _ _ ha.1, ?_, ?_, ?_, ?_, hat r hm, hkids r hm⟩
      all_goals rw [Nat.add_assoc]
      · exact hx _ _ ha.2.1
      · exact hx _ _ ha.2.2.1
      · exact hx _ _ ha.2.2.2.1
      · exact hx _ _ ha.2.2.2.2

theorem Tree.take {S : Nat → Prop} {w : World} {l : List Nd} {A : Option Addr} {n c : Nat} (h : Tree S w l (.slice A n c)) (k : Nat) (hk : k ≤ l.length) : Tree S w (l.take k) (.slice A k c) := by
  cases h with
  | mk R l A c hl hc hcell hat hkids =>
    subst hl
    have hk' : k ≤ R.length := by simpa using hk
    have e : ncells (R.take k) = (ncells R).take (k * 5) := by
      have h1 : ncells R = ncells (R.take k) ++ ncells (R.drop k) := by rw [← ncells_append, List.take_append_drop]
      rw [h1, List.take_left' (by rw [ncells_length, List.length_take]; omega)]
    have hlen : (((R.take k).map Rn.n)).length = k := by rw [List.length_map, List.length_take]; omega
    have hb : ((R.take k).map Rn.n).length ≤ c := by rw [hlen]; rw [List.length_map] at hc; omega
    have := Tree.mk (S := S) (w := w) (R.take k) ((R.take k).map Rn.n) A c rfl hb (by rw [e]; exact hcell.take _)
      (fun r hr => hat r (List.mem_of_mem_take hr)) (fun r hr => hkids r (List.mem_of_mem_take hr))
    rw [hlen] at this
    rw [← List.map_take]
    exact this

/-! ### lists that the call itself makes -/
/-- The slice v holds the nodes l in a row of the call's own; what hangs on them lies in blocks of S, which that row's is not. -/
def OwnT (w : World) (base : Nat) (S : Nat → Prop) (l : List Nd) (v : Value) : Prop :=
  ∃ R : List Rn, R.map Rn.n = l ∧ w.ownsRow base 29 5 v R.length (ncells R) ∧ (∀ r ∈ R, AttrsAt S w r.n.attrs r.va) ∧ (∀ r ∈ R, Tree S w r.n.kids r.vk) ∧ ∀ g, v.ownBlock = some g → ¬ S g

theorem own_size {w : World} {base : Nat} {e : TypeId} {s : Nat} {v : Value} {n : Nat} {xs : List Value} (h : w.ownsRow base e s v n xs) : ∃ A c, v = .slice A n c ∧ n ≤ c := by
  rcases h.2 with ⟨hv, h0⟩ | ⟨g, cap, cur, hv, _, _, hn, _⟩
  · subst h0
    exact ⟨none, 0, hv, Nat.le_refl _⟩
  · exact ⟨some ⟨g, 0, none⟩, cap, hv, hn⟩

theorem OwnT.nil (w : World) (base : Nat) (S : Nat → Prop) : OwnT w base S [] (.slice none 0 0) := ⟨[], rfl, World.ownsRow_nil _ _ _ _, by simp, by simp, fun g hg => by cases hg⟩
theorem OwnT.tree {w : World} {base : Nat} {S : Nat → Prop} {l : List Nd} {v : Value} (h : OwnT w base S l v) : Tree (fun b => S b ∨ v.ownBlock = some b) w l v := by
  obtain ⟨R, rfl, hown, hat, hk, hS⟩ := h
  obtain ⟨A, c, rfl, hc⟩ := own_size hown
  have := Tree.mk (S := fun b => S b ∨ (Value.slice A R.length c).ownBlock = some b) (w := w) R (R.map Rn.n) A c rfl (by rw [List.length_map]; exact hc) ((Cells.own hown).mono fun b hb => .inr hb)
    (fun r hr => (hat r hr).mono fun b hb => .inl hb) (fun r hr => (hk r hr).mono fun b hb => .inl hb)
  rw [List.length_map] at this
  exact this
theorem OwnT.lt {w : World} {base : Nat} {S : Nat → Prop} {l : List Nd} {v : Value} (h : OwnT w base S l v) : ∀ g, v.ownBlock = some g → base ≤ g ∧ g < w.heap.size := by
  obtain ⟨R, rfl, hown, _⟩ := h
  intro g hg
  have := hown.lt g hg
  exact ⟨this.1, this.2⟩
theorem OwnT.shape {w : World} {base : Nat} {S : Nat → Prop} {l : List Nd} {v : Value} (h : OwnT w base S l v) : ∃ A c, v = .slice A l.length c ∧ l.length ≤ c := by
  obtain ⟨R, rfl, hown, _⟩ := h
  rw [List.length_map]
  exact own_size hown

/-- The law of append, and where the new row lies: where the old one lay, or behind all that was. -/
theorem run_append_new {w : World} (base : Nat) (t ty e : TypeId) (i : TypeInfo) (z : Value) (size bytes : Nat) (ht : Try.prog.underlying t = some (.slice e)) (hi : Try.prog.info? e = some i) (hz : i.zero = some z)
    (hsize : i.size = size) (hby : i.bytes = bytes) (hzs : z.cells.size = size) (hsz : 0 < size)
    (v : Value) (n : Nat) (xs : List Value) (hown : w.ownsRow base e size v n xs)
    (a : Addr) (m c : Nat) (news : List Value) (hl : news.length = m * size) (hnews : ∀ j u, news[j]? = some u → w.cell? (a.add j) = some u) (h1 : ∀ u ∈ news, u.oneCell' = true)
    (h63 : n + m ≤ maxLen) (hbytes : (n + m) * bytes ≤ 140737488355328) (hbase : base ≤ w.heap.size) :
    ∃ v' w', (Builtin.append_ #[t, t] ty #[v, .slice (some a) m c]).run Try.prog w = .ok v' w' ∧ w'.ownsRow base e size v' (n + m) (xs ++ news) ∧ w.grownBy w' v.ownBlock ∧ (v'.ownBlock = v.ownBlock ∨ ∀ g, v'.ownBlock = some g → w.heap.size ≤ g) := by
  have hx := hown.1
  rcases hown.2 with ⟨hv, h0⟩ | ⟨g, cap, cur, hv, hg, hh, hn, hcm, hcs, hct⟩
  · subst hv
    subst h0
    have hxs : xs = [] := by
      have := hown.1
      simp at this
      exact this
    subst hxs
    obtain ⟨v', w', hrun, hown', hgr, _⟩ := run_append_own (w := w) w.heap.size t ty e i z size bytes ht hi hz hsize hby hzs hsz (.slice none 0 0) 0 [] (World.ownsRow_nil _ _ _ _) a m c news hl hnews h1 h63 hbytes (Nat.le_refl _)
    exact ⟨v', w', hrun, own_more hown' hbase, hgr, .inr fun g hg => (hown'.lt g hg).1⟩
  · subst hv
    by_cases hfit : n + m ≤ cap
    · obtain ⟨w', hrun, r1, r2⟩ := run_append_fits (P := Try.prog) w base t ty e i size ht hi hsize g n cap xs hown a m c news hl hnews h1 hfit
      exact ⟨_, w', hrun, r1, r2, .inl rfl⟩
    · obtain ⟨v', w', hrun, r1, r2⟩ := run_append_arg_grows (P := Try.prog) w t ty e i z size bytes ht hi hz hsize hby hzs hsz ⟨g, 0, none⟩ n cap xs hx (hown.cells rfl) a m c news hl hnews (by omega) h63 hbytes
      exact ⟨v', w', hrun, own_more r1 hbase, ⟨r2.os, r2.tape, r2.output, r2.size, fun k hk _ => r2.block k hk (by simp)⟩, .inr fun g hg => (r1.lt g hg).1⟩

end Go.Proofs.Ytenjhfkdbmljnaa
