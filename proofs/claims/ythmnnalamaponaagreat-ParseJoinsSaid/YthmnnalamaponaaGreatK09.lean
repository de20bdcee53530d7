/- Parts of the proof, in build order: FewR GoodH GoodR Good. -/
import Derived.Test.YthmnnalamaponaaGreatK08
import Derived.Test.YthmnnalamaponaaGreatK07
import Derived.Test.YthmnnalamaponaaGreatK03
import Derived.Test.YthmnnalamaponaaGreatK06
import Derived.Deep.DeepCutAuto

/- Part FewR. -/
namespace Go.Proofs.YthmnnalamaponaaGreat
open Go.RowKit
set_option linter.unusedVariables false
set_option linter.unusedSimpArgs false

theorem few_one (l : List Nd) (v : Value) (w : World) (hT : Tree (· < w.heap.size) w l v) (hF : Fine l) :
    Calls Tryz.prog 19 #[v] w fun e w' => ∃ (out : List Nd) (v' : Value), e = .returned v' ∧ OwnC w' w.heap.size w.heap.size out v' ∧ szL out ≤ 16800 ∧ Below w.heap.size w w' ∧ Kp l out ∧ (l.length = 1 → (∀ n ∈ l, n.kids = []) → out.length = 1 ∧ szL out ≤ 420) := by
  go_enter Tryz.func19, Tryz.ntmps19
  go_wp2_with fail
  refine (cut_any l (· < w.heap.size) v 40 w hT (fun b hb => hb) hF (by omega)).mono ?_
  rintro e w1 ⟨out, v', m, rfl, hm, hown, hsz, hb, hkp, _, hone, hsum⟩
  go_wp2_with fail
  go_ret
  exact ⟨out, v', rfl, hown, by omega, hb, hkp, fun h hk => by have h1 := hone h (by omega); have h2 := hsum hk; exact ⟨h1, by omega⟩⟩
theorem few_any (l : List Nd) (v : Value) (w : World) (hT : Tree (· < w.heap.size) w l v) (hF : Fine l) :
    Calls Tryz.prog 19 #[v] w fun e w' => ∃ (out : List Nd) (v' : Value), e = .returned v' ∧ OwnC w' w.heap.size w.heap.size out v' ∧ szL out ≤ 16800 ∧ Below w.heap.size w w' ∧ Kp l out :=
  (few_one l v w hT hF).mono fun _ _ ⟨out, v', h1, h2, h3, h4, h5, _⟩ => ⟨out, v', h1, h2, h3, h4, h5⟩

theorem Kp.snocT {l out : List Nd} {k : Nat} {n : Nd} (h : Kp l out) (hn : l[k]? = some n) (hk : n.kind = 2 ∨ n.kind = 3) (t : ByteArray) : Kp l (out ++ [.mk n.kind ⟨#[]⟩ [] t []]) := by
  have hm := List.mem_of_getElem? hn
  refine ⟨fun hs q hq => ?_, fun hs q hq => ?_⟩
  · rcases List.mem_append.1 hq with hq | hq
    · exact h.1 hs q hq
    · simp at hq
      subst hq
      exact hs n hm
  · have := (hs n hm).1
    omega
theorem Kp.snocE {l out G : List Nd} {k : Nat} {n : Nd} {t : ByteArray} (h : Kp l out) (hn : l[k]? = some n) (hk : ¬ (n.kind = 2 ∨ n.kind = 3)) (ht : namedB n.name.data.toList = true → t = n.name) (h2 : Kp n.kids G) {a : List (ByteArray × ByteArray)} (ha : ∀ y ∈ a, ∃ x ∈ n.attrs, AttN x.1 y.1) :
    Kp l (out ++ [.mk 1 t a ⟨#[]⟩ G]) := by
  have hm := List.mem_of_getElem? hn
  refine ⟨fun hs q hq => ?_, fun hs q hq => ?_⟩
  · exact absurd (.inl (hs n hm)) hk
  · rcases List.mem_append.1 hq with hq | hq
    · exact h.2 hs q hq
    · simp at hq
      subst hq
      obtain ⟨e1, e2, e4, e3⟩ := hs n hm
      rw [e2] at ht
      refine ⟨rfl, ht (by decide +kernel), fun y hy => ?_, h2.1 e3⟩
      obtain ⟨x, hx, e⟩ := ha y hy
      have e5 := e.2
      rw [e4 x hx] at e5
      exact e5 (by decide +kernel)
theorem mergeB_inv (P : Nd → Prop) (hP : ∀ x t, P x → P (.mk x.kind x.name x.attrs t x.kids)) : ∀ (l acc : List Nd), (∀ q ∈ acc, P q) → (∀ q ∈ l, P q) → ∀ q ∈ l.foldl mstep acc, P q
  | [], acc, ha, _ => ha
  | n :: l, acc, ha, hl => by
    refine mergeB_inv P hP l (mstep acc n) ?_ (fun q hq => hl q (List.mem_cons_of_mem _ hq))
    unfold mstep
    split
    · exact ha
    · split
      · rename_i h
        rcases List.eq_nil_or_concat acc with rfl | ⟨m, x, rfl⟩
        · simp [lastText] at h
        · rw [List.concat_eq_append] at ha ⊢
          rw [mglue_snoc]
          intro q hq
          rcases List.mem_append.1 hq with hq | hq
          · exact ha q (List.mem_append_left _ hq)
          · simp at hq
            subst hq
            exact hP _ _ (ha x (by simp))
      · intro q hq
        rcases List.mem_append.1 hq with hq | hq
        · exact ha q hq
        · simp at hq
          subst hq
          exact hl _ (by simp)
theorem Kp.merge {l out : List Nd} (h : Kp l out) : Kp l (mergeB out) := by
  refine ⟨fun hs => ?_, fun hs => ?_⟩
  · exact mergeB_inv (fun q => q.kind = 2) (fun x t hx => hx) out [] (fun q hq => by cases hq) (h.1 hs)
  · exact mergeB_inv (fun m => m.kind = 1 ∧ m.name = ⟨#[98]⟩ ∧ (∀ a ∈ m.attrs, a.1 = ⟨#[105, 100]⟩) ∧ ShK m.kids) (fun x t hx => hx) out [] (fun q hq => by cases hq) (h.2 hs)

structure GdAt (w wr : World) (l : List Nd) (k : Nat) (out : List Nd) (v : Value) : Prop where
  le : k ≤ l.length
  own : OwnC wr w.heap.size w.heap.size out v
  sz : szL out ≤ 4 * szL (l.take k)
  ok : preOK out
  bel : Below w.heap.size w wr
  kp : Kp l out
def GdRel (w : World) (l : List Nd) (y z : Value) (wr : World) : Prop := ∃ (k : Nat) (out : List Nd), z = .int .i64 k ∧ GdAt w wr l k out y

/-- What good tells. -/
def GdEnd (w : World) (l : List Nd) (e : Ending) (w' : World) : Prop :=
  ∃ (G : List Nd) (v : Value), e = .returned v ∧ OwnC w' w.heap.size w.heap.size G v ∧ szL G ≤ 4 * szL l ∧ GoodL G ∧ Below w.heap.size w w' ∧ Kp l G

theorem preOK_snoc {out : List Nd} {n : Nd} (h : preOK out) (hn : nodeOK n) (hk : GoodL n.kids) : preOK (out ++ [n]) := by
  refine ⟨fun x hx => ?_, fun x hx => ?_⟩
  · rcases List.mem_append.1 hx with hx | hx
    · exact h.1 x hx
    · simp at hx; subst hx; exact hn
  · rcases List.mem_append.1 hx with hx | hx
    · exact h.2 x hx
    · simp at hx; subst hx; exact hk

theorem szL_snoc_take {l : List Nd} {k : Nat} {n : Nd} (h : l[k]? = some n) : szL (l.take (k + 1)) = szL (l.take k) + szN n := by
  rw [List.take_add_one, h, szL_append]
  simp [szL_cons, szL_nil]

/-- The text of a node that is none or some: an own list with a node more. -/
theorem kept_store3 {w : World} (a : Addr) (v : Value) (ob : Obj) : Kept (fun b => b ≠ a.block ∧ b < w.heap.size) w ((w.setCell a v).alloc ob) := kept_store a v ob

structure InGAt (W0 wr : World) (B : Nat) (al : List (ByteArray × ByteArray)) (j : Nat) (a : List (ByteArray × ByteArray)) (va : Value) : Prop where
  le : j ≤ al.length
  c2 : wr.cell? ⟨B, 2, none⟩ = some va
  ci : ∀ i, i ≠ 2 → wr.cell? ⟨B, i, none⟩ = W0.cell? ⟨B, i, none⟩
  fr : wr.frozen? ⟨B, 2, none⟩ = false
  fr4 : wr.frozen? ⟨B, 4, none⟩ = false
  own : wr.ownsRow W0.heap.size 39 2 va a.length (acells a)
  ok : attrsOK a
  sz : szA a ≤ 4 * szA (al.take j)
  bel : Below B W0 wr
  hz : W0.heap.size ≤ wr.heap.size
  nm : ∀ y ∈ a, ∃ x ∈ al, AttN x.1 y.1
def InGRel (W0 : World) (B : Nat) (al : List (ByteArray × ByteArray)) (y : Value) (wr : World) : Prop := ∃ (j : Nat) (a : List (ByteArray × ByteArray)) (va : Value), y = .int .i64 j ∧ InGAt W0 wr B al j a va

/-- What the making of an attribute leaves. -/
def RegEnd (W : World) (x : ByteArray × ByteArray) (s7 : Value) (wx : World) : Prop :=
  ∃ (g : Nat) (t u : ByteArray), s7 = .pointer (some ⟨g, 0, none⟩) ∧ W.heap.size ≤ g ∧ wx.cell? ⟨g, 0, none⟩ = some (.string t) ∧ wx.cell? ⟨g, 1, none⟩ = some (.string u) ∧ AttN x.1 t ∧ isB u.data.toList = true ∧
    t.size ≤ x.1.size + 7 ∧ u.size ≤ 4 * x.2.size ∧ Below W.heap.size W wx

theorem rightS_any (A : Option Addr) (c : Nat) (s : ByteArray) (w : World) (hs : Sits w w.heap.size A (Lib.byteCells s.data.toList)) (hc : s.size ≤ c) (hm : s.size ≤ 1000000) :
    Calls Tryz.prog 28 #[.slice A s.size c] w fun e w' => ∃ u : ByteArray, e = .returned (.string u) ∧ isB u.data.toList = true ∧ u.size ≤ 4 * s.size ∧ Below w.heap.size w w' := by
  rw [str_list] at hc hm ⊢
  refine (rightR_any A c s.data.toList w hs hc hm).mono ?_
  rintro e w' ⟨rfl, hb⟩
  exact ⟨_, rfl, isB_right _, right_len _, hb⟩

theorem sits_now (W : World) (s : ByteArray) (cap : Nat) :
    Sits (W.alloc (.cells (bytesRow s cap) 5 ((bytesRow s cap).size, (bytesRow s cap).size + 1))).drew (W.alloc (.cells (bytesRow s cap) 5 ((bytesRow s cap).size, (bytesRow s cap).size + 1))).drew.heap.size (some ⟨W.heap.size, 0, none⟩) (Lib.byteCells s.data.toList) := by
  simpa using sits_new W s cap

theorem chain1 {W w' w'' : World} {o : Obj} (h1 : Below W.drew.heap.size W.drew w') (h2 : Below (w'.alloc o).drew.heap.size (w'.alloc o).drew w'') : Below W.heap.size W w'' :=
  below_after (below_after (below_after ((Below.refl _ W).drew) h1) (((Below.refl _ w').alloc (Nat.le_refl _) o).drew)) h2
theorem chain2 {W w' w'' : World} {o : Obj} (h1 : Below (W.alloc o).drew.heap.size (W.alloc o).drew w') (h2 : Below w'.heap.size w' w'') : Below W.heap.size W w'' :=
  below_after (below_after (((Below.refl _ W).alloc (Nat.le_refl _) o).drew) h1) h2

theorem cell_keep {W w' : World} {b i : Nat} {v : Value} (hb : Below W.heap.size W w') (h : W.cell? ⟨b, i, none⟩ = some v) : w'.cell? ⟨b, i, none⟩ = some v :=
  (hb.cell (p := ⟨b, i, none⟩) (World.block_lt_of_cell? W ⟨b, i, none⟩ h)).trans h

theorem keep3 {W w' : World} {b1 i1 b2 i2 b3 i3 : Nat} {v1 v2 v3 : Value} (hb : Below W.heap.size W w') (h : W.cell? ⟨b1, i1, none⟩ = some v1 ∧ W.cell? ⟨b2, i2, none⟩ = some v2 ∧ W.cell? ⟨b3, i3, none⟩ = some v3) :
    w'.cell? ⟨b1, i1, none⟩ = some v1 ∧ w'.cell? ⟨b2, i2, none⟩ = some v2 ∧ w'.cell? ⟨b3, i3, none⟩ = some v3 := ⟨cell_keep hb h.1, cell_keep hb h.2.1, cell_keep hb h.2.2⟩

theorem bcell {W w1 : World} (hb : Below W.heap.size W w1) : (∀ b o, b < W.heap.size → w1.cell? ⟨b, o, none⟩ = W.cell? ⟨b, o, none⟩) ∧ (∀ b o, b < W.heap.size → w1.frozen? ⟨b, o, none⟩ = W.frozen? ⟨b, o, none⟩) :=
  ⟨fun b o h => hb.cell (p := ⟨b, o, none⟩) h, fun b o h => hb.frozen (p := ⟨b, o, none⟩) h⟩

end Go.Proofs.YthmnnalamaponaaGreat

/- Part GoodH. -/
namespace Go.Proofs.YthmnnalamaponaaGreat
open Go.RowKit
set_option linter.unusedVariables false

/-- The making of bytes out of a text, under a name. -/
def cvOp : Op := Op.convert 9 27 (.tmp 81)

theorem below_swap {a W : World} {o o' : Obj} (h : Below a.heap.size a (W.alloc o)) (hz : a.heap.size ≤ W.heap.size) : Below a.heap.size a (W.alloc o') :=
  ⟨h.os, h.tape, h.output, by have := h.size; simpa using this, fun k hk => by
    have h1 := h.block k hk
    have e : ∀ ob : Obj, (W.alloc ob).heap[k]? = W.heap[k]? := fun ob => Below.heap_alloc W ob k (by omega)
    rw [e] at h1 ⊢
    exact h1⟩
theorem below_n1 (W : World) (o : Obj) : Below W.drew.heap.size W.drew (W.alloc o).drew := below_new W.drew o
theorem below_n2 (W : World) (o : Obj) : Below W.drew.drew.heap.size W.drew.drew (W.alloc o).drew.drew := below_new W.drew.drew o
theorem below_c2 (W : World) (o : Obj) : Below W.drew.heap.size W.drew (W.alloc o).drew.drew := (below_new W.drew o).drew
theorem sits_step {w w' : World} {A : Option Addr} {xs : List Value} (h : Sits w w.heap.size A xs) (hb : Below w.heap.size w w') : Sits w' w'.heap.size A xs := (h.below hb).more hb.size
theorem sits_at {W : World} {s : ByteArray} {cap g : Nat} (hg : g = W.heap.size) :
    Sits (W.alloc (.cells (bytesRow s cap) 5 ((bytesRow s cap).size, (bytesRow s cap).size + 1))).drew (W.alloc (.cells (bytesRow s cap) 5 ((bytesRow s cap).size, (bytesRow s cap).size + 1))).drew.heap.size (some ⟨g, 0, none⟩) (Lib.byteCells s.data.toList) := by
  subst hg
  exact sits_now W s cap
theorem sits_at2 {W : World} {s : ByteArray} {cap g : Nat} (hg : g = W.heap.size) :
    Sits (W.alloc (.cells (bytesRow s cap) 5 ((bytesRow s cap).size, (bytesRow s cap).size + 1))).drew.drew (W.alloc (.cells (bytesRow s cap) 5 ((bytesRow s cap).size, (bytesRow s cap).size + 1))).drew.drew.heap.size (some ⟨g, 0, none⟩) (Lib.byteCells s.data.toList) :=
  sits_step (sits_at hg) ((Below.refl _ _).drew)

theorem regEnd_alloc {W w' : World} {x : ByteArray × ByteArray} {t u : ByteArray} {ty : TypeId} (hz : W.heap.size ≤ w'.heap.size) (ht : AttN x.1 t) (hu : isB u.data.toList = true)
    (htz : t.size ≤ x.1.size + 7) (huz : u.size ≤ 4 * x.2.size) (hb : Below W.heap.size W (w'.alloc (.cells #[.string t, .string u] ty))) : RegEnd W x (.pointer (some ⟨w'.heap.size, 0, none⟩)) (w'.alloc (.cells #[.string t, .string u] ty)) :=
  ⟨_, t, u, rfl, hz, by simp, by simp, ht, hu, htz, huz, hb⟩
theorem regEnd_set {W w' : World} {x : ByteArray × ByteArray} {t u : ByteArray} {g : Nat} (hz : W.heap.size ≤ g) (h0 : w'.cell? ⟨g, 0, none⟩ = some (.string ⟨#[]⟩)) (h1 : w'.cell? ⟨g, 1, none⟩ = some (.string ⟨#[]⟩)) (ht : AttN x.1 t) (hu : isB u.data.toList = true)
    (htz : t.size ≤ x.1.size + 7) (huz : u.size ≤ 4 * x.2.size) (hb : Below W.heap.size W ((w'.setCell ⟨g, 0, none⟩ (.string t)).setCell ⟨g, 1, none⟩ (.string u))) :
    RegEnd W x (.pointer (some ⟨g, 0, none⟩)) ((w'.setCell ⟨g, 0, none⟩ (.string t)).setCell ⟨g, 1, none⟩ (.string u)) := by
  refine ⟨_, t, u, rfl, hz, ?_, ?_, ht, hu, htz, huz, hb⟩
  · rw [World.cell?_setCell_other _ _ _ _ (by simp)]
    exact World.cell?_setCell_same _ _ _ h0
  · refine World.cell?_setCell_same _ _ _ (u := .string ⟨#[]⟩) ?_
    rw [World.cell?_setCell_other _ _ _ _ (by simp)]
    exact h1

theorem szA_take {l : List (ByteArray × ByteArray)} {j : Nat} {x : ByteArray × ByteArray} (h : l[j]? = some x) : szA (l.take (j + 1)) = szA (l.take j) + (10 + x.1.size + x.2.size) := by
  rw [List.take_add_one, h, szA_append]
  simp [szA]

theorem InGAt.skip {W0 wr w3 : World} {B j : Nat} {al a : List (ByteArray × ByteArray)} {va : Value} (h : InGAt W0 wr B al j a va) {x : ByteArray × ByteArray} (hx : al[j]? = some x) (hb : Below wr.heap.size wr w3) (hB : B < W0.heap.size) :
    InGAt W0 w3 B al (j + 1) a va := by
  have hBr : B < wr.heap.size := Nat.lt_of_lt_of_le hB h.hz
  refine ⟨(List.getElem?_eq_some_iff.1 hx).1, (hb.cell (p := ⟨B, 2, none⟩) hBr).trans h.c2, fun i hi => (hb.cell (p := ⟨B, i, none⟩) hBr).trans (h.ci i hi), (hb.frozen (p := ⟨B, 2, none⟩) hBr).trans h.fr,
    (hb.frozen (p := ⟨B, 4, none⟩) hBr).trans h.fr4, own_below h.own hb, h.ok, ?_, h.bel.trans (hb.mono (Nat.le_of_lt hBr)), Nat.le_trans h.hz hb.size, h.nm⟩
  have := h.sz
  rw [szA_take hx]
  omega

theorem attrsOK_snoc {a : List (ByteArray × ByteArray)} {t u : ByteArray} (h : attrsOK a) (ht : attrB t.data.toList = true) (hu : isB u.data.toList = true) (hn : ∀ y ∈ a, y.1 ≠ t) : attrsOK (a ++ [(t, u)]) := by
  refine ⟨fun y hy => ?_, ?_⟩
  · rcases List.mem_append.1 hy with hy | hy
    · exact h.1 y hy
    · simp at hy; subst hy; exact ⟨ht, hu⟩
  · rw [List.pairwise_append]
    refine ⟨h.2, by simp, fun y hy z hz => ?_⟩
    simp at hz
    subst hz
    exact hn y hy

/-- A cell is another one: no other block has turned. -/
theorem grown_set (W : World) (b i : Nat) (v : Value) : W.grownBy (W.setCell ⟨b, i, none⟩ v) (some b) :=
  ⟨rfl, rfl, rfl, by simp [World.setCell], fun k hk hne => by
    have : k ≠ b := fun e => hne (by rw [e])
    simp [World.setCell, Array.getElem?_modify, Ne.symm this]⟩

theorem InGAt.more {W0 wr w4 w5 : World} {B j : Nat} {al a : List (ByteArray × ByteArray)} {va v' : Value} (h : InGAt W0 wr B al j a va) {x : ByteArray × ByteArray} (hx : al[j]? = some x) (hb : Below wr.heap.size wr w4) (hB : B < W0.heap.size)
    {t u : ByteArray} (own' : w5.ownsRow W0.heap.size 39 2 v' (a.length + 1) (acells a ++ [.string t, .string u])) (hg : w4.grownBy w5 va.ownBlock)
    (ht : AttN x.1 t) (hu : isB u.data.toList = true) (htz : t.size ≤ x.1.size + 7) (huz : u.size ≤ 4 * x.2.size) (hn : valA a t = none) :
    InGAt W0 (w5.setCell ⟨B, 2, none⟩ v') B al (j + 1) (a ++ [(t, u)]) v' := by
  have hBr : B < wr.heap.size := Nat.lt_of_lt_of_le hB h.hz
  have hB4 : B < w4.heap.size := Nat.lt_of_lt_of_le hBr hb.size
  have hne : some B ≠ va.ownBlock := fun e => by
    have := (h.own.lt B e.symm).1
    omega
  have hbk : w5.heap[B]? = wr.heap[B]? := (hg.block B hB4 hne).trans (hb.block B hBr)
  have hc : ∀ i, w5.cell? ⟨B, i, none⟩ = wr.cell? ⟨B, i, none⟩ := fun i => World.cell?_of_block (a := ⟨B, i, none⟩) hbk
  have hf : ∀ i, w5.frozen? ⟨B, i, none⟩ = wr.frozen? ⟨B, i, none⟩ := fun i => by
    unfold World.frozen?
    rw [hbk]
  refine ⟨(List.getElem?_eq_some_iff.1 hx).1, World.cell?_setCell_same _ _ _ ((hc 2).trans h.c2), fun i hi => ?_, ?_, ?_, ?_, attrsOK_snoc h.ok ht.1 hu (valA_none.1 hn), ?_, ?_, ?_, ?_⟩
  · rw [World.cell?_setCell_other _ _ _ _ (fun e => hi (by injection e with _ e _; exact e.symm)), hc]
    exact h.ci i hi
  · rw [World.frozen?_setCell, hf]; exact h.fr
  · rw [World.frozen?_setCell, hf]; exact h.fr4
  · have e1 : (a ++ [(t, u)]).length = a.length + 1 := by simp
    have e2 : acells (a ++ [(t, u)]) = acells a ++ [.string t, .string u] := by rw [acells_append]; rfl
    rw [e1, e2]
    exact own'.kept (grown_set w5 B 2 v') (.inr fun e => by have := (own'.lt B e).1; omega)
  · have := h.sz
    rw [szA_append, szA_take hx]
    simp only [szA]
    omega
  · have h1 : Below B W0 w4 := h.bel.trans (hb.mono (Nat.le_of_lt hBr))
    exact (h1.grown hg (Nat.le_of_lt hB4) (fun k hk => by have := (h.own.lt k hk).1; omega)).setCell (p := ⟨B, 2, none⟩) (Nat.le_refl _) _
  · have := hg.size
    have := hb.size
    have := h.hz
    simp
    omega
  · intro y hy
    rcases List.mem_append.1 hy with hy | hy
    · exact h.nm y hy
    · simp at hy
      subst hy
      exact ⟨x, List.mem_of_getElem? hx, ht⟩

/-- Another block's cells, behind an append to a row of the call's own. -/
theorem far_two {w w' w0 : World} {B base : Nat} {v : Value} {n : Nat} {e : TypeId} {s : Nat} {xs : List Value} (hg : w.grownBy w' v.ownBlock) (h : w0.ownsRow base e s v n xs) (hB : B < base) (hz : B < w.heap.size) :
    (∀ i, w'.cell? ⟨B, i, none⟩ = w.cell? ⟨B, i, none⟩) ∧ ∀ i, w'.frozen? ⟨B, i, none⟩ = w.frozen? ⟨B, i, none⟩ := by
  have hbk : w'.heap[B]? = w.heap[B]? := hg.block B hz (fun e => by have := (h.lt B e.symm).1; omega)
  refine ⟨fun i => World.cell?_of_block (a := ⟨B, i, none⟩) hbk, fun i => ?_⟩
  unfold World.frozen?
  rw [hbk]

/-- A call's own attributes, as they can be read. -/
theorem own_attrs {w : World} {base : Nat} {l : List (ByteArray × ByteArray)} {v : Value} (h : w.ownsRow base 39 2 v l.length (acells l)) : AttrsAt (fun b => v.ownBlock = some b) w l v := by
  obtain ⟨A, c, rfl, hc⟩ := own_size h
  exact ⟨A, c, rfl, hc, Cells.own h⟩

/-- What a new element is put together of lies where it may. -/
theorem good_kept {w wo W0 wr w1 : World} {out G : List Nd} {v0 va vG : Value} {a al : List (ByteArray × ByteArray)} {j : Nat} (hown : OwnC wo w.heap.size w.heap.size out v0) (hbel : Below w.heap.size w wo)
    (hB0 : Below wo.heap.size wo W0) (hz : wo.heap.size < W0.heap.size) (HI : InGAt W0 wr wo.heap.size al j a va) (hb1 : Below wr.heap.size wr w1) (hG : OwnC w1 wr.heap.size wr.heap.size G vG) :
    Below w.heap.size w (w1.setCell ⟨wo.heap.size, 4, none⟩ vG) ∧ ∀ ob : Obj, OwnC ((w1.setCell ⟨wo.heap.size, 4, none⟩ vG).alloc ob) w.heap.size w.heap.size out v0 ∧
      AttrsAt (Sub w.heap.size ((w1.setCell ⟨wo.heap.size, 4, none⟩ vG).alloc ob) v0) ((w1.setCell ⟨wo.heap.size, 4, none⟩ vG).alloc ob) a va ∧
      Tree (Sub w.heap.size ((w1.setCell ⟨wo.heap.size, 4, none⟩ vG).alloc ob) v0) ((w1.setCell ⟨wo.heap.size, 4, none⟩ vG).alloc ob) G vG := by
  have h1 := HI.hz
  have h2 := hb1.size
  have h3 := hbel.size
  have hs : (w1.setCell ⟨wo.heap.size, 4, none⟩ vG).heap.size = w1.heap.size := by simp
  have hbo : Below wo.heap.size wo (w1.setCell ⟨wo.heap.size, 4, none⟩ vG) := ((hB0.trans HI.bel).trans (hb1.mono (by omega))).setCell (p := ⟨wo.heap.size, 4, none⟩) (Nat.le_refl _) _
  have far : ∀ (ob : Obj) (b : Nat), b ≠ wo.heap.size → b < w1.heap.size → ∀ i, ((w1.setCell ⟨wo.heap.size, 4, none⟩ vG).alloc ob).cell? ⟨b, i, none⟩ = w1.cell? ⟨b, i, none⟩ := by
    intro ob b hb hlt i
    rw [World.cell?_alloc_past _ _ _ (by rw [hs]; exact hlt), World.cell?_setCell_far _ _ _ _ (fun e => hb e.symm)]
  have hlt0 := OwnT.lt hown
  refine ⟨hbel.trans (hbo.mono h3), fun ob => ⟨OwnC.later hown (hbo.alloc (by rw [hs]; omega) ob), ?_, ?_⟩⟩
  · refine ((own_attrs HI.own).keep (fun b hb i => ?_)).mono fun b hb => ?_
    · have := HI.own.lt b hb
      rw [far ob b (by omega) (by omega)]
      exact hb1.cell (p := ⟨b, i, none⟩) this.2
    · have h4 := HI.own.lt b hb
      refine ⟨by omega, ?_, fun e => ?_⟩
      · rw [World.size_alloc, hs]; omega
      · have := hlt0 b e; omega
  · refine ((OwnC.tree hG (Nat.le_refl _)).keep (fun b hb i => far ob b (by omega) hb.2 i)).mono fun b hb => ?_
    refine ⟨by omega, ?_, fun e => ?_⟩
    · rw [World.size_alloc, hs]; omega
    · have := hlt0 b e; omega

end Go.Proofs.YthmnnalamaponaaGreat

/- Part GoodR. -/
namespace Go.Proofs.YthmnnalamaponaaGreat
open Go.RowKit
set_option linter.unusedVariables false
set_option linter.unusedSimpArgs false

attribute [local go_sem] cvOp

set_option maxHeartbeats 4000000 in
set_option maxRecDepth 100000 in
theorem good_any (l : List Nd) : ∀ (S : Nat → Prop) (v : Value) (w : World), Tree S w l v → (∀ b, S b → b < w.heap.size) → szL l ≤ 100000 →
    Calls Tryz.prog 18 #[v] w (GdEnd w l) := by
  induction l using nd_ind with
  | h l ih =>
    intro S v w hT hS hsl
    have hlen := szL_len l
    have kb := fun (w : World) (s : ByteArray) => run_bytes_of_string (P := Tryz.prog) w 9 27 5 s Tryz.underlying9 Tryz.underlying27 Tryz.underlying5
    obtain ⟨A, c, rfl, hc⟩ := hT.shape
    have HT := Lib.hid hT
    have IH := Lib.hid ih
    have HS := Lib.hid hS
    clear hT ih hS
    go_enter Tryz.func18, Tryz.ntmps18
    go_wp2_with fail
    go_loopw [3, 4] (fun y z wr => GdRel w l y z wr) (fun _ z _ => l.length - (intOf z).toNat)
    case atStart => exact ⟨0, [], rfl, by omega, OwnC.nil _ _ _, by simp [szL], ⟨by simp, by simp⟩, Below.refl _ _, Kp.nil _⟩
    case round =>
      obtain ⟨k, out, rfl, HR⟩ := hrel
      have hk := HR.le
      have hown := HR.own
      have hsz := HR.sz
      have hok := HR.ok
      have hbel := HR.bel
      have HKP := Lib.hid HR.kp
      clear HR
      have hol := szL_len out
      have htk : szL (l.take k) ≤ szL l := by
        have : szL l = szL (l.take k) + szL (l.drop k) := by rw [← szL_append, List.take_append_drop]
        omega
      by_cases hlt : k < l.length
      · obtain ⟨b, o, c', hv, _, hSb, hcell⟩ := HT.out.open_ (by omega)
        injection hv with hA _ hcc
        subst hA
        subst hcc
        obtain ⟨n, hn⟩ : ∃ n, l[k]? = some n := ⟨_, List.getElem?_eq_getElem hlt⟩
        obtain ⟨va, vk, hat⟩ := hcell k n hn
        have hbw : b < w.heap.size := HS.out b hSb
        have q0 : wr.cell? ⟨b, o + k * 5, none⟩ = some (.int .i64 n.kind) := (hbel.cell (p := ⟨b, o + k * 5, none⟩) hbw).trans hat.c0
        have q1 : wr.cell? ⟨b, o + k * 5 + 1, none⟩ = some (.string n.name) := (hbel.cell (p := ⟨b, o + k * 5 + 1, none⟩) hbw).trans hat.c1
        have q2 : wr.cell? ⟨b, o + k * 5 + 2, none⟩ = some va := (hbel.cell (p := ⟨b, o + k * 5 + 2, none⟩) hbw).trans hat.c2
        have q3 : wr.cell? ⟨b, o + k * 5 + 3, none⟩ = some (.string n.text) := (hbel.cell (p := ⟨b, o + k * 5 + 3, none⟩) hbw).trans hat.c3
        have q4 : wr.cell? ⟨b, o + k * 5 + 4, none⟩ = some vk := (hbel.cell (p := ⟨b, o + k * 5 + 4, none⟩) hbw).trans hat.c4
        have hns := szL_at hn
        have hne := szN_eq n
        have hst := szL_snoc_take hn
        have HST := Lib.hid hst
        have HNE := Lib.hid hne
        have HAT := Lib.hid hat
        have HN := Lib.hid hn
        have HOK := Lib.hid hok
        have hwz := hbel.size
        have hbr : b < wr.heap.size := by omega
        have hns1 : n.text.size ≤ 100000 := by omega
        have hns2 : n.name.size ≤ 100000 := by omega
        clear hcell hn hat hst hne hok
        by_cases hkind : n.kind = 2 ∨ n.kind = 3
        · have B0 : decide (n.kind < 1) = false := by simp; omega
          have B1 : decide (3 < n.kind) = false := by simp; omega
          have B2 : (n.kind != 1) = true := by simp; omega
          have HKD := Lib.hid hkind
          clear hkind
          obtain ⟨tl, htl⟩ : ∃ tl, n.text.data.toList = tl := ⟨_, rfl⟩
          have htz : n.text.size = tl.length := by rw [← htl]; simp
          have HTL := Lib.hid htl
          have HTZ := Lib.hid htz
          clear htl htz
          go_wp2_with fail
          obtain ⟨w1, hw1⟩ : ∃ w1, wr.alloc (.cells #[.int .i64 n.kind, .string ⟨#[]⟩, .slice none 0 0, .string ⟨#[]⟩, .slice none 0 0] 35) = w1 := ⟨_, rfl⟩
          have hz1 : w1.heap.size = wr.heap.size + 1 := by rw [← hw1]; simp
          have hb1 : Below wr.heap.size wr w1 := by rw [← hw1]; exact (Below.refl _ _).alloc (Nat.le_refl _) _
          have d : ∀ i u, #[Value.int .i64 n.kind, .string ⟨#[]⟩, .slice none 0 0, .string ⟨#[]⟩, .slice none 0 0][i]? = some u → w1.cell? ⟨wr.heap.size, i, none⟩ = some u ∧ w1.frozen? ⟨wr.heap.size, i, none⟩ = false := by
            intro i u hi
            rw [← hw1]
            exact ⟨by simpa using hi, by simp⟩
          rw [hw1, ← hz1]
          have HD1 := Lib.hid d
          clear hw1 d
          obtain ⟨w2, hw2, sits2, hb2⟩ := sits_conv (w := w1) HTL.out
          rw [hw2]
          have hcap := grownCap_ge w1 n.text.size 0 5
          rw [HTZ.out] at hcap ⊢
          clear hw2
          refine (rightR_any _ _ tl w2 sits2 hcap (by have := HTZ.out; omega)).mono ?_
          have hrl := right_len tl
          have hrb := isB_right tl
          obtain ⟨r, hr⟩ : ∃ r, right tl = r := ⟨_, rfl⟩
          rw [hr] at hrl hrb ⊢
          obtain ⟨t, ht, htl, htz⟩ := str_of r
          rw [ht]
          rintro e w3 ⟨rfl, hb3⟩
          have hB3 : Below w1.heap.size w1 w3 := below_after hb2 hb3
          rw [← htl] at hrb
          have htz2 : t.size ≤ 4 * n.text.size := by have := HTZ.out; omega
          have e : ∀ i u, #[Value.int .i64 n.kind, .string ⟨#[]⟩, .slice none 0 0, .string ⟨#[]⟩, .slice none 0 0][i]? = some u → w3.cell? ⟨wr.heap.size, i, none⟩ = some u ∧ w3.frozen? ⟨wr.heap.size, i, none⟩ = false := by
            intro i u hi
            exact ⟨(hB3.cell (p := ⟨wr.heap.size, i, none⟩) (by show wr.heap.size < _; omega)).trans (HD1.out i u hi).1, (hB3.frozen (p := ⟨wr.heap.size, i, none⟩) (by show wr.heap.size < _; omega)).trans (HD1.out i u hi).2⟩
          have e0 := (e 0 _ rfl).1
          have e1 := (e 1 _ rfl).1
          have e2 := (e 2 _ rfl).1
          have e3 := (e 3 _ rfl).1
          have e4 := (e 4 _ rfl).1
          have f3 := (e 3 _ rfl).2
          have hz3 : wr.heap.size < w3.heap.size := by have := hB3.size; omega
          have hbo : Below wr.heap.size wr w3 := hb1.trans (hB3.mono (by omega))
          have HRB := Lib.hid hrb
          obtain ⟨A6, c6, rfl, hc6⟩ := OwnT.shape hown
          have hownF := fun ob => OwnC.later hown ((hbo.setCell (p := ⟨wr.heap.size, 3, none⟩) (Nat.le_refl _) (.string t)).alloc (by simp; omega) ob)
          have HOF := Lib.hid hownF
          have hbf : Below w.heap.size w (w3.setCell ⟨wr.heap.size, 3, none⟩ (.string t)) := (hbel.trans (hbo.mono hwz)).setCell (p := ⟨wr.heap.size, 3, none⟩) hwz _
          have HLO := Lib.hid (OwnT.lt hown)
          have hn5 : ∀ i u, (ncells1 ⟨.mk n.kind ⟨#[]⟩ [] t [], .slice none 0 0, .slice none 0 0⟩)[i]? = some u →
              ((w3.setCell ⟨wr.heap.size, 3, none⟩ (.string t)).alloc (.cells #[.int .i64 n.kind, .string ⟨#[]⟩, .slice none 0 0, .string t, .slice none 0 0] 35)).cell? ((⟨w3.heap.size, 0, none⟩ : Addr).add i) = some u := by
            intro i u hi
            have := new_five (w3.setCell ⟨wr.heap.size, 3, none⟩ (.string t)) 35 ⟨.mk n.kind ⟨#[]⟩ [] t [], .slice none 0 0, .slice none 0 0⟩ i u hi
            rw [show (w3.setCell ⟨wr.heap.size, 3, none⟩ (.string t)).heap.size = w3.heap.size by simp] at this
            exact this
          have HN5 := Lib.hid hn5
          have hwr3 : w.heap.size ≤ w3.heap.size + 1 := by omega
          clear hr ht htl htz hrl hrb hb1 hb2 hb3 hB3 sits2 hcap e hownF hown hn5 hbo
          go_wp2_with (at_builtin; refine wpList_append_node rfl _ _ rfl w.heap.size w.heap.size out (.slice A6 out.length c6) rfl (HOF.out _) ⟨.mk n.kind ⟨#[]⟩ [] t [], .slice none 0 0, .slice none 0 0⟩ ⟨w3.heap.size, 0, none⟩ 1 rfl HN5.out (AttrsAt.nil _ _) (Tree.nil _ _) (by omega) (by simpa using hwr3) ?_; intro v' w4 hown' hgrow)
          have hB4 : Below w.heap.size w w4 := (hbf.alloc hbf.size _).grown hgrow (by simpa using hwr3) (fun g hg => (HLO.out g hg).1)
          clear hgrow
          go_roundw
          case rel =>
            refine ⟨k + 1, out ++ [.mk n.kind ⟨#[]⟩ [] t []], by go_num, by omega, hown', ?_, preOK_snoc (n := .mk n.kind ⟨#[]⟩ [] t []) HOK.out (.inr ⟨HKD.out, rfl, rfl, rfl, HRB.out⟩) GoodL.nil, hB4, HKP.out.snocT HN.out HKD.out _⟩
            rw [szL_append, szL_cons, szL_nil, szN_mk, HST.out, HNE.out]
            simp only [szA, szL]
            show szL out + (10 + 0 + t.size + 0 + 0 + 0) ≤ _
            omega
          case measure => simp [intOf]; omega
        · obtain ⟨A2, c2, rfl, _, _⟩ := id HAT.out.at_
          have hw := fun w => word_eq n.name w hns2
          have HW := Lib.hid hw
          have HKD := Lib.hid hkind
          clear hw hkind
          obtain ⟨q, hq⟩ : ∃ q, (decide (n.kind < 1) || decide (3 < n.kind)) = q := ⟨_, rfl⟩
          have HQ := Lib.hid hq
          clear hq
          go_upto_region 6 with fail
          go_cut [29] (fun s wx => s = .bool q ∧ wx = wr.alloc (.cells #[.int .i64 n.kind, .string ⟨#[]⟩, .slice none 0 0, .string ⟨#[]⟩, .slice none 0 0] 35))
          case first =>
            have hkk : n.kind = 1 ∨ n.kind < 1 ∨ 3 < n.kind := by have := HKD.out; omega
            have hq := HQ.out
            rcases hkk with hk1 | hk1 | hk1
            case' inl =>
              rw [hk1] at hq ⊢
              have hq' : false = q := hq
              clear hq
              subst hq'
            case' inr.inl =>
              have B0 : decide (n.kind < 1) = true := by simp; omega
              rw [B0] at hq
              have hq' : true = q := hq
              clear hq
              subst hq'
            case' inr.inr =>
              have B0 : decide (n.kind < 1) = false := by simp; omega
              have B1 : decide (3 < n.kind) = true := by simp; omega
              rw [B0, B1] at hq
              have hq' : true = q := hq
              clear hq
              subst hq'
            all_goals
              go_wp2_with fail
              go_meet
            all_goals first
              | exact ⟨rfl, rfl⟩
              | exact ⟨rfl, by rw [hk1]⟩
          case rest =>
            obtain ⟨rfl, rfl⟩ := hcut
            go_upto_if 29 with fail
            go_cut [] (fun wx => wx = wr.alloc (.cells #[.int .i64 1, .string ⟨#[]⟩, .slice none 0 0, .string ⟨#[]⟩, .slice none 0 0] 35))
            case first =>
              have hq := HQ.out
              cases q with
              | true =>
                clear hq
                go_wp2_with fail
                go_meet
                case rel => rfl
              | false =>
                have hk1 : n.kind = 1 := by
                  have := HKD.out
                  simp at hq
                  omega
                clear hq
                rw [hk1]
                go_wp2_with fail
                go_meet
                case rel => rfl
            case rest =>
              subst hcut
              go_wp2_with fail
              obtain ⟨w1, hw1⟩ : ∃ w1, wr.alloc (.cells #[.int .i64 1, .string ⟨#[]⟩, .slice none 0 0, .string ⟨#[]⟩, .slice none 0 0] 35) = w1 := ⟨_, rfl⟩
              have hz1 : w1.heap.size = wr.heap.size + 1 := by rw [← hw1]; simp
              have hb1 : Below wr.heap.size wr w1 := by rw [← hw1]; exact (Below.refl _ _).alloc (Nat.le_refl _) _
              have d : ∀ i u, #[Value.int .i64 1, .string ⟨#[]⟩, .slice none 0 0, .string ⟨#[]⟩, .slice none 0 0][i]? = some u → w1.cell? ⟨wr.heap.size, i, none⟩ = some u ∧ w1.frozen? ⟨wr.heap.size, i, none⟩ = false := by
                intro i u hi
                rw [← hw1]
                exact ⟨by simpa using hi, by simp⟩
              rw [hw1]
              have HD1 := Lib.hid d
              clear hw1 d
              refine (HW.out w1).mono ?_
              rintro e w2 ⟨t, rfl, htn, htz, hb2, hte⟩
              have HTE := Lib.hid hte
              clear hte
              have hz2 : wr.heap.size < w2.heap.size := by have := hb2.size; omega
              have e' : ∀ i u, #[Value.int .i64 1, .string ⟨#[]⟩, .slice none 0 0, .string ⟨#[]⟩, .slice none 0 0][i]? = some u → w2.cell? ⟨wr.heap.size, i, none⟩ = some u ∧ w2.frozen? ⟨wr.heap.size, i, none⟩ = false := by
                intro i u hi
                exact ⟨(hb2.cell (p := ⟨wr.heap.size, i, none⟩) (by show wr.heap.size < _; omega)).trans (HD1.out i u hi).1, (hb2.frozen (p := ⟨wr.heap.size, i, none⟩) (by show wr.heap.size < _; omega)).trans (HD1.out i u hi).2⟩
              have e1 := (e' 1 _ rfl).1
              have f1 := (e' 1 _ rfl).2
              have HE2 := Lib.hid e'
              have HTN := Lib.hid htn
              have hbo : Below wr.heap.size wr w2 := hb1.trans (hb2.mono (by omega))
              have HBO := Lib.hid hbo
              clear e' htn hb1 hb2 hbo
              go_wp2_with fail
              obtain ⟨W0, hW0⟩ : ∃ W0, w2.setCell ⟨wr.heap.size, 1, none⟩ (.string t) = W0 := ⟨_, rfl⟩
              have hz0 : W0.heap.size = w2.heap.size := by rw [← hW0]; simp
              have d0 : W0.cell? ⟨wr.heap.size, 0, none⟩ = some (.int .i64 1) := by rw [← hW0, World.cell?_setCell_other _ _ _ _ (by simp)]; exact (HE2.out 0 _ rfl).1
              have d1 : W0.cell? ⟨wr.heap.size, 1, none⟩ = some (.string t) := by rw [← hW0]; exact World.cell?_setCell_same _ _ _ e1
              have d2 : W0.cell? ⟨wr.heap.size, 2, none⟩ = some (.slice none 0 0) := by rw [← hW0, World.cell?_setCell_other _ _ _ _ (by simp)]; exact (HE2.out 2 _ rfl).1
              have d3 : W0.cell? ⟨wr.heap.size, 3, none⟩ = some (.string ⟨#[]⟩) := by rw [← hW0, World.cell?_setCell_other _ _ _ _ (by simp)]; exact (HE2.out 3 _ rfl).1
              have d4 : W0.cell? ⟨wr.heap.size, 4, none⟩ = some (.slice none 0 0) := by rw [← hW0, World.cell?_setCell_other _ _ _ _ (by simp)]; exact (HE2.out 4 _ rfl).1
              have df2 : W0.frozen? ⟨wr.heap.size, 2, none⟩ = false := by rw [← hW0, World.frozen?_setCell]; exact (HE2.out 2 _ rfl).2
              have df4 : W0.frozen? ⟨wr.heap.size, 4, none⟩ = false := by rw [← hW0, World.frozen?_setCell]; exact (HE2.out 4 _ rfl).2
              have hbo0 : Below wr.heap.size wr W0 := by rw [← hW0]; exact HBO.out.setCell (p := ⟨wr.heap.size, 1, none⟩) (Nat.le_refl _) _
              rw [hW0]
              have HD := Lib.hid (And.intro d0 (And.intro d1 (And.intro d2 (And.intro d3 d4))))
              have HB0 := Lib.hid hbo0
              have hz02 : wr.heap.size < W0.heap.size := by omega
              clear hW0 e1 f1 d0 d1 d3 d4 hbo0 hz0
              obtain ⟨wo, rfl⟩ : ∃ wo : World, wo = wr := ⟨_, rfl⟩
              go_loopw [6] (fun y wi => InGRel W0 wo.heap.size n.attrs y wi) (fun y _ => n.attrs.length - (intOf y).toNat)
              case atStart => exact ⟨0, [], _, rfl, by omega, d2, fun _ _ => rfl, df2, df4, World.ownsRow_nil _ _ _ _, ⟨by simp, List.Pairwise.nil⟩, by simp [szA], Below.refl _ _, Nat.le_refl _, by simp⟩
              case round =>
                obtain ⟨j, a, va, rfl, HI⟩ := hrel
                have hj := HI.le
                have g2 := HI.c2
                have hiz := HI.hz
                have hib := HI.bel
                have HII := Lib.hid HI
                clear HI d2 df2 df4
                have hbr3 : b < wr.heap.size := by omega
                have p2 : wr.cell? ⟨b, o + k * 5 + 2, none⟩ = some (.slice A2 n.attrs.length c2) := (hib.cell (p := ⟨b, o + k * 5 + 2, none⟩) hbr).trans ((HB0.out.cell (p := ⟨b, o + k * 5 + 2, none⟩) hbr).trans q2)
                have p4 : wr.cell? ⟨b, o + k * 5 + 4, none⟩ = some vk := (hib.cell (p := ⟨b, o + k * 5 + 4, none⟩) hbr).trans ((HB0.out.cell (p := ⟨b, o + k * 5 + 4, none⟩) hbr).trans q4)
                by_cases hin : j < n.attrs.length
                · obtain ⟨b2, o2, c2', hv2, _, hSb2, hac⟩ := HAT.out.at_.at_ (by omega)
                  injection hv2 with hA2 _ hcc2
                  subst hA2
                  subst hcc2
                  obtain ⟨x, hx⟩ : ∃ x, n.attrs[j]? = some x := ⟨_, List.getElem?_eq_getElem hin⟩
                  have hbw2 : b2 < w.heap.size := HS.out b2 hSb2
                  have hbw3 : b2 < wo.heap.size := by omega
                  have k0 : wr.cell? ⟨b2, o2 + j * 2, none⟩ = some (.string x.1) := (hib.cell (p := ⟨b2, o2 + j * 2, none⟩) hbw3).trans ((HB0.out.cell (p := ⟨b2, o2 + j * 2, none⟩) hbw3).trans ((hbel.cell (p := ⟨b2, o2 + j * 2, none⟩) hbw2).trans (hac j x hx).1))
                  have k1 : wr.cell? ⟨b2, o2 + j * 2 + 1, none⟩ = some (.string x.2) := (hib.cell (p := ⟨b2, o2 + j * 2 + 1, none⟩) hbw3).trans ((HB0.out.cell (p := ⟨b2, o2 + j * 2 + 1, none⟩) hbw3).trans ((hbel.cell (p := ⟨b2, o2 + j * 2 + 1, none⟩) hbw2).trans (hac j x hx).2))
                  have hxs := szA_at hx
                  have hxn : x.1.size ≤ 100000 ∧ x.2.size ≤ 100000 := by have := HNE.out; omega
                  obtain ⟨hxn1, hxn2⟩ := hxn
                  have HX := Lib.hid hx
                  clear hac hx
                  have nn0 := World.new_ne wr ⟨b, o + k * 5 + 2, none⟩ p2
                  have nn1 := World.new_ne wr ⟨b2, o2 + j * 2, none⟩ k0
                  have nn2 := World.new_ne wr ⟨b2, o2 + j * 2 + 1, none⟩ k1
                  go_upto_region 15 with fail
                  go_cut [7] (fun s7 wx => RegEnd wr x s7 wx)
                  case first =>
                    have MKS := Lib.hid fun (W : World) (hb : Below wr.heap.size wr W) => (⟨cell_keep hb p2, cell_keep hb k0, cell_keep hb k1, hb⟩ : W.cell? ⟨b, o + k * 5 + 2, none⟩ = some (.slice (some ⟨b2, o2, none⟩) n.attrs.length c2) ∧ W.cell? ⟨b2, o2 + j * 2, none⟩ = some (.string x.1) ∧ W.cell? ⟨b2, o2 + j * 2 + 1, none⟩ = some (.string x.2) ∧ Below wr.heap.size wr W)
                    have SB := Lib.hid fun (W : World) (h : W.cell? ⟨b, o + k * 5 + 2, none⟩ = some (.slice (some ⟨b2, o2, none⟩) n.attrs.length c2) ∧ W.cell? ⟨b2, o2 + j * 2, none⟩ = some (.string x.1) ∧ W.cell? ⟨b2, o2 + j * 2 + 1, none⟩ = some (.string x.2) ∧ Below wr.heap.size wr W) => h.2.2.2
                    rw [show (Op.convert 9 27 (.tmp 81) : Op) = cvOp from rfl]
                    go_region_held3 (fun W => W.cell? ⟨b, o + k * 5 + 2, none⟩ = some (.slice (some ⟨b2, o2, none⟩) n.attrs.length c2) ∧ W.cell? ⟨b2, o2 + j * 2, none⟩ = some (.string x.1) ∧ W.cell? ⟨b2, o2 + j * 2 + 1, none⟩ = some (.string x.2) ∧ Below wr.heap.size wr W)
                      (first
                        | exact MKS.out _ (Below.refl _ _).drew
                        | (refine MKS.out _ (below_after (SB.out _ ?_) hba); assumption)
                        | (refine MKS.out _ (below_after (SB.out _ ?_) hbb); assumption)
                        | (refine MKS.out _ (below_after (SB.out _ ?_) (below_new _ _)); assumption)
                        | (refine MKS.out _ (below_after (SB.out _ ?_) (alloc_drew_below _ _)); assumption)
                        | (refine MKS.out _ (below_after (SB.out _ ?_) (below_n1 _ _)); assumption)
                        | (refine MKS.out _ (below_after (SB.out _ ?_) (below_n2 _ _)); assumption)
                        | (refine MKS.out _ (below_after (SB.out _ ?_) (below_c2 _ _)); assumption)
                        | (refine MKS.out _ (below_swap (o := ?_) (SB.out _ ?_) ?_); rotate_left; assumption; ((try simp); omega))
                        | (refine MKS.out _ (Below.setCell (Below.setCell (SB.out _ (by assumption)) (by first | omega | (simp; done) | (simp; omega)) _) (by first | omega | (simp; done) | (simp; omega)) _)))
                      (first
                        | (go_at_call 30; refine (attribute_eq x.1 _ hxn1).mono ?_; rintro e w' ⟨ta, rfl, hta, htaz, hba⟩; have hza := hba.size; (try simp at hza); obtain ⟨hca, hfa⟩ := bcell hba; (try have hga : wr.heap.size < w'.heap.size := by omega); (try have hgb : wr.heap.size + 1 < w'.heap.size := by omega))
                        | (go_at_call 28; refine (rightS_any _ _ x.2 _ (sits_at (by simp)) (grownCap_ge _ _ _ _) (by omega)).mono ?_; rintro e w' ⟨ub, rfl, hub, hubz, hbb⟩; have hzb := hbb.size; (try simp at hzb); obtain ⟨hcb, hfb⟩ := bcell hbb)
                        | (go_at_call 28; refine (rightS_any _ _ x.2 _ (sits_step (sits_at (by simp)) (below_n1 _ _)) (grownCap_ge _ _ _ _) (by omega)).mono ?_; rintro e w' ⟨ub, rfl, hub, hubz, hbb⟩; have hzb := hbb.size; (try simp at hzb); obtain ⟨hcb, hfb⟩ := bcell hbb)
                        | (go_at_call 28; refine (rightS_any _ _ x.2 _ (sits_step (sits_at2 (by simp)) hba) (grownCap_ge _ _ _ _) (by omega)).mono ?_; rintro e w' ⟨ub, rfl, hub, hubz, hbb⟩; have hzb := hbb.size; (try simp at hzb); obtain ⟨hcb, hfb⟩ := bcell hbb)
                        | (go_at_call 28; refine (rightS_any _ _ x.2 _ (sits_step (sits_step (sits_at2 (by simp)) hba) (below_new _ _)) (grownCap_ge _ _ _ _) (by omega)).mono ?_; rintro e w' ⟨ub, rfl, hub, hubz, hbb⟩; have hzb := hbb.size; (try simp at hzb); obtain ⟨hcb, hfb⟩ := bcell hbb)
                        | (go_at_call 28; refine (rightS_any _ _ x.2 _ (sits_step (sits_step (sits_at2 (by simp)) (below_n2 _ _)) hba) (grownCap_ge _ _ _ _) (by omega)).mono ?_; rintro e w' ⟨ub, rfl, hub, hubz, hbb⟩; have hzb := hbb.size; (try simp at hzb); obtain ⟨hcb, hfb⟩ := bcell hbb))
                    all_goals go_wp2_with fail
                    all_goals go_meet
                    all_goals first
                      | exact regEnd_alloc (by omega) hta hub htaz hubz (SB.out _ (by assumption))
                      | exact regEnd_set (by first | omega | (simp; done) | (simp; omega)) (by first | (rw [hcb _ _ (by first | omega | (simp; done) | (simp; omega))]; simp; done) | (rw [hcb _ _ (by first | omega | (simp; done) | (simp; omega))]; rw [World.cell?_drew, World.cell?_alloc_past _ _ _ (by omega), hca _ _ (by first | omega | (simp; done) | (simp; omega))]; simp; done) | (rw [hcb _ _ (by first | omega | (simp; done) | (simp; omega)), hca _ _ (by first | omega | (simp; done) | (simp; omega))]; simp; done) | (rw [hcb _ _ (by first | omega | (simp; done) | (simp; omega)), hca _ _ (by first | omega | (simp; done) | (simp; omega))]; rfl)) (by first | (rw [hcb _ _ (by first | omega | (simp; done) | (simp; omega))]; simp; done) | (rw [hcb _ _ (by first | omega | (simp; done) | (simp; omega))]; rw [World.cell?_drew, World.cell?_alloc_past _ _ _ (by omega), hca _ _ (by first | omega | (simp; done) | (simp; omega))]; simp; done) | (rw [hcb _ _ (by first | omega | (simp; done) | (simp; omega)), hca _ _ (by first | omega | (simp; done) | (simp; omega))]; simp; done) | (rw [hcb _ _ (by first | omega | (simp; done) | (simp; omega)), hca _ _ (by first | omega | (simp; done) | (simp; omega))]; rfl)) hta hub htaz hubz (SB.out _ (by assumption))
                  case rest =>
                    obtain ⟨g, t2, u2, rfl, hg, cg0, cg1, hat2, hub2, htz2, huz2, hbc⟩ := hcut
                    have hBw : wo.heap.size < wr.heap.size := by omega
                    have hBc : wo.heap.size < wc.heap.size := by have := hbc.size; omega
                    have r0 : wc.cell? ⟨wo.heap.size, 0, none⟩ = some (.int .i64 1) := (hbc.cell (p := ⟨wo.heap.size, 0, none⟩) hBw).trans ((HII.out.ci 0 (by omega)).trans HD.out.1)
                    have r1 : wc.cell? ⟨wo.heap.size, 1, none⟩ = some (.string t) := (hbc.cell (p := ⟨wo.heap.size, 1, none⟩) hBw).trans ((HII.out.ci 1 (by omega)).trans HD.out.2.1)
                    have r2 : wc.cell? ⟨wo.heap.size, 2, none⟩ = some va := (hbc.cell (p := ⟨wo.heap.size, 2, none⟩) hBw).trans HII.out.c2
                    have r3 : wc.cell? ⟨wo.heap.size, 3, none⟩ = some (.string ⟨#[]⟩) := (hbc.cell (p := ⟨wo.heap.size, 3, none⟩) hBw).trans ((HII.out.ci 3 (by omega)).trans HD.out.2.2.2.1)
                    have r4 : wc.cell? ⟨wo.heap.size, 4, none⟩ = some (.slice none 0 0) := (hbc.cell (p := ⟨wo.heap.size, 4, none⟩) hBw).trans ((HII.out.ci 4 (by omega)).trans HD.out.2.2.2.2)
                    have hatA : AttrsAt (· < wc.heap.size) wc a va := ((own_attrs HII.out.own).keep (fun b hb i => hbc.cell (p := ⟨b, i, none⟩) (HII.out.own.lt b hb).2)).mono fun b hb => Nat.lt_of_lt_of_le (HII.out.own.lt b hb).2 hbc.size
                    have haz : szA a ≤ 400000 := by
                      have h1 := HII.out.sz
                      have h2 : szA (n.attrs.take j) ≤ szA n.attrs := by
                        have : szA n.attrs = szA (n.attrs.take j) + szA (n.attrs.drop j) := by rw [← szA_append, List.take_append_drop]
                        omega
                      have := HNE.out
                      omega
                    have hjl : n.attrs.length ≤ 100000 := by have h1 := szA_len n.attrs; have := HNE.out; omega
                    obtain ⟨Aa, ca, rfl, hca⟩ := id hatA
                    have hval := valueR_any (· < wc.heap.size) 1 t ⟨#[]⟩ a (.slice Aa a.length ca) (.slice none 0 0) t2 wc hatA (fun b hb => hb) (by omega)
                    have HVAL := Lib.hid hval
                    have HAT2 := Lib.hid (And.intro hat2 (And.intro hub2 (And.intro htz2 huz2)))
                    have HBC := Lib.hid hbc
                    clear hatA hval hat2 hub2 htz2 huz2 nn0 nn1 nn2 p2 p4 k0 k1 hbc g2
                    obtain ⟨q, hq⟩ : ∃ q, (valA a t2).isSome = q := ⟨_, rfl⟩
                    rw [hq] at HVAL
                    have HQ := Lib.hid hq
                    clear hq
                    cases q with
                    | true =>
                      go_wp2_with fail
                      refine HVAL.out.mono ?_
                      rintro e w3 ⟨rfl, hb3⟩
                      have hbw3 := below_after HBC.out hb3
                      go_wp2_with fail
                      go_roundw
                      case rel => exact ⟨j + 1, a, _, by go_num, HII.out.skip HX.out hbw3 hz02⟩
                      case measure => simp [intOf]; omega
                    | false =>
                      go_wp2_with fail
                      refine HVAL.out.mono ?_
                      rintro e w3 ⟨rfl, hb3⟩
                      have hbw3 := below_after HBC.out hb3
                      have hB3 : wo.heap.size < w3.heap.size := Nat.lt_of_lt_of_le hBc hb3.size
                      have s2 : w3.cell? ⟨wo.heap.size, 2, none⟩ = some (.slice Aa a.length ca) := (hb3.cell (p := ⟨wo.heap.size, 2, none⟩) hBc).trans r2
                      have hgc : g < wc.heap.size := World.block_lt_of_cell? wc ⟨g, 0, none⟩ cg0
                      have e0 : w3.cell? ⟨g, 0, none⟩ = some (.string t2) := (hb3.cell (p := ⟨g, 0, none⟩) hgc).trans cg0
                      have e1 : w3.cell? ⟨g, 1, none⟩ = some (.string u2) := (hb3.cell (p := ⟨g, 1, none⟩) hgc).trans cg1
                      have f3 : w3.frozen? ⟨wo.heap.size, 2, none⟩ = false := (hbw3.frozen (p := ⟨wo.heap.size, 2, none⟩) hBw).trans HII.out.fr
                      have hal : a.length ≤ 100000 := by have := szA_len a; omega
                      have hwz3 : W0.heap.size ≤ w3.heap.size + 1 := by have := hbw3.size; omega
                      have HOW := Lib.hid (fun ob => own_below (own_below HII.out.own hbw3) (below_new w3 ob))
                      have HG5 := Lib.hid (fun (w5 : World) (ob : Obj) (hg : (w3.alloc ob).grownBy w5 (Value.slice Aa a.length ca).ownBlock) => far_two (B := wo.heap.size) hg HII.out.own hz02 (by simp; omega))
                      obtain ⟨i0, hi, hz0, hz1, hz2⟩ := info_parts info_attr
                      go_wp2_with (at_builtin; refine wpList_append_own _ rfl _ _ 33 rfl W0.heap.size 39 i0 _ 2 32 Tryz.underlying33 hi hz0 hz1 hz2 rfl (by decide) _ _ _ rfl (HOW.out _) ⟨w3.heap.size, 0, none⟩ 1 1 (acells [(t2, u2)]) rfl rfl (new_two w3 _ _ _) (acells_one _) (by unfold maxLen; omega) (by omega) (by simpa using hwz3) ?_; intro v' w5 hown' hgrow _; obtain ⟨A5, c5, rfl, _⟩ := own_size hown'; obtain ⟨hc5, hf5⟩ := HG5.out w5 _ hgrow; have s5 := (hc5 2).trans ((World.cell?_alloc_past _ _ _ hB3).trans s2); have f5 := (hf5 2).trans ((World.frozen?_alloc_past _ _ _ hB3).trans f3))
                      go_roundw
                      case rel => exact ⟨j + 1, a ++ [(t2, u2)], _, by go_num, HII.out.more HX.out (below_after hbw3 (below_new w3 _)) hz02 hown' hgrow HAT2.out.1 HAT2.out.2.1 HAT2.out.2.2.1 HAT2.out.2.2.2 (Option.isNone_iff_eq_none.1 (by rw [← Option.not_isSome, HQ.out]; rfl))⟩
                      case measure => simp [intOf]; omega
                · have hjn : j = n.attrs.length := by omega
                  have htake : n.attrs.take j = n.attrs := List.take_of_length_le (by omega)
                  have hsza : szA a ≤ 4 * szA n.attrs := by have := HII.out.sz; rwa [htake] at this
                  have hbw : Below w.heap.size w wr := hbel.trans ((HB0.out.trans hib).mono hwz)
                  have hgd := IH.out k n HN.out S vk wr (HAT.out.kids.keep (Kept.belowB hbw HS.out)) (fun b hb => Nat.lt_of_lt_of_le (HS.out b hb) hbw.size) (by have := szL_kids HN.out; omega)
                  have HGD := Lib.hid hgd
                  have hBw : wo.heap.size < wr.heap.size := by omega
                  have r0 : wr.cell? ⟨wo.heap.size, 0, none⟩ = some (.int .i64 1) := (HII.out.ci 0 (by omega)).trans HD.out.1
                  have r1 : wr.cell? ⟨wo.heap.size, 1, none⟩ = some (.string t) := (HII.out.ci 1 (by omega)).trans HD.out.2.1
                  have r3 : wr.cell? ⟨wo.heap.size, 3, none⟩ = some (.string ⟨#[]⟩) := (HII.out.ci 3 (by omega)).trans HD.out.2.2.2.1
                  have r4 : wr.cell? ⟨wo.heap.size, 4, none⟩ = some (.slice none 0 0) := (HII.out.ci 4 (by omega)).trans HD.out.2.2.2.2
                  have HR := Lib.hid (And.intro r0 (And.intro r1 (And.intro g2 (And.intro r3 r4))))
                  obtain ⟨A6, c6, rfl, hc6⟩ := OwnT.shape hown
                  obtain ⟨Aa, ca, rfl, hca⟩ := own_size HII.out.own
                  have HOWN := Lib.hid hown
                  have HJN := Lib.hid (And.intro hjn htake)
                  have HSA := Lib.hid hsza
                  have hjl : n.attrs.length ≤ 100000 := by have h1 := szA_len n.attrs; have := HNE.out; omega
                  clear hgd r0 r1 r3 r4 g2 hown hjn htake hsza
                  go_wp2_with fail
                  refine HGD.out.mono ?_
                  rintro e w7 ⟨G, vG, rfl, hG, hGz, hGok, hb7, hkp7⟩
                  have HKG := Lib.hid hkp7
                  clear hkp7
                  obtain ⟨A7, c7, rfl, hc7⟩ := OwnT.shape hG
                  have hbB : wo.heap.size < w7.heap.size := Nat.lt_of_lt_of_le hBw hb7.size
                  obtain ⟨hbelF, hkF⟩ := good_kept HOWN.out hbel HB0.out hz02 HII.out hb7 hG
                  have y0 : w7.cell? ⟨wo.heap.size, 0, none⟩ = some (.int .i64 1) := (hb7.cell (p := ⟨wo.heap.size, 0, none⟩) hBw).trans HR.out.1
                  have y1 : w7.cell? ⟨wo.heap.size, 1, none⟩ = some (.string t) := (hb7.cell (p := ⟨wo.heap.size, 1, none⟩) hBw).trans HR.out.2.1
                  have y2 : w7.cell? ⟨wo.heap.size, 2, none⟩ = some (.slice Aa a.length ca) := (hb7.cell (p := ⟨wo.heap.size, 2, none⟩) hBw).trans HR.out.2.2.1
                  have y3 : w7.cell? ⟨wo.heap.size, 3, none⟩ = some (.string ⟨#[]⟩) := (hb7.cell (p := ⟨wo.heap.size, 3, none⟩) hBw).trans HR.out.2.2.2.1
                  have y4 : w7.cell? ⟨wo.heap.size, 4, none⟩ = some (.slice none 0 0) := (hb7.cell (p := ⟨wo.heap.size, 4, none⟩) hBw).trans HR.out.2.2.2.2
                  have f4 : w7.frozen? ⟨wo.heap.size, 4, none⟩ = false := (hb7.frozen (p := ⟨wo.heap.size, 4, none⟩) hBw).trans HII.out.fr4
                  have HKF := Lib.hid hkF
                  have HGG := Lib.hid (And.intro hGz hGok)
                  have HLO := Lib.hid (OwnT.lt HOWN.out)
                  have hwr7 : w.heap.size ≤ w7.heap.size + 1 := by have := hb7.size; have := hwz; omega
                  have hn5 : ∀ i u, (ncells1 ⟨.mk 1 t a ⟨#[]⟩ G, .slice Aa a.length ca, .slice A7 G.length c7⟩)[i]? = some u →
                      ((w7.setCell ⟨wo.heap.size, 4, none⟩ (.slice A7 G.length c7)).alloc (.cells #[.int .i64 1, .string t, .slice Aa a.length ca, .string ⟨#[]⟩, .slice A7 G.length c7] 35)).cell? ((⟨w7.heap.size, 0, none⟩ : Addr).add i) = some u := by
                    intro i u hi
                    have := new_five (w7.setCell ⟨wo.heap.size, 4, none⟩ (.slice A7 G.length c7)) 35 ⟨.mk 1 t a ⟨#[]⟩ G, .slice Aa a.length ca, .slice A7 G.length c7⟩ i u hi
                    rw [show (w7.setCell ⟨wo.heap.size, 4, none⟩ (.slice A7 G.length c7)).heap.size = w7.heap.size by simp] at this
                    exact this
                  have HN5 := Lib.hid hn5
                  clear hkF hGz hGok hn5 hG
                  go_wp2_with (at_builtin; refine wpList_append_node rfl _ _ rfl w.heap.size w.heap.size out (.slice A6 out.length c6) rfl (HKF.out _).1 ⟨.mk 1 t a ⟨#[]⟩ G, .slice Aa a.length ca, .slice A7 G.length c7⟩ ⟨w7.heap.size, 0, none⟩ 1 rfl HN5.out (HKF.out _).2.1 (HKF.out _).2.2 (by omega) (by simpa using hwr7) ?_; intro v' w8 hown' hgrow)
                  have hB8 : Below w.heap.size w w8 := (hbelF.alloc hbelF.size _).grown hgrow (by simpa using hwr7) (fun g hg => (HLO.out g hg).1)
                  clear hgrow
                  go_roundw
                  case rel =>
                    refine ⟨k + 1, out ++ [.mk 1 t a ⟨#[]⟩ G], by go_num, by omega, hown', ?_, preOK_snoc (n := .mk 1 t a ⟨#[]⟩ G) HOK.out (.inl ⟨rfl, HTN.out, rfl, HII.out.ok⟩) HGG.out.2, hB8, HKP.out.snocE HN.out HKD.out HTE.out HKG.out HII.out.nm⟩
                    rw [szL_append, szL_cons, szL_nil, szN_mk, HST.out, HNE.out]
                    have := HGG.out.1
                    have := HSA.out
                    have hz0 : (⟨#[]⟩ : ByteArray).size = 0 := rfl
                    omega
                  case measure => simp [intOf]; omega
      · have hex : (l.length : Int) ≤ (k : Int) := by omega
        have hlk : l.take k = l := List.take_of_length_le (by omega)
        rw [hlk] at hsz
        have ht := OwnC.tree hown (Nat.le_refl _)
        have hmg := merge_sz out
        have HG := Lib.hid (merge_good hok)
        have HTR := Lib.hid ht
        clear ht hown hok hlk
        go_wp2_with fail
        refine (mergeR_any w.heap.size out _ wr HTR.out (by omega)).mono ?_
        rintro e w1 ⟨v', rfl, hown', hb'⟩
        have hB := below_after hbel hb'
        go_wp2_with fail
        go_ret
        refine ⟨mergeB out, v', rfl, ?_, by omega, HG.out, hB, HKP.out.merge⟩
        obtain ⟨R, h1, h2, h3⟩ := hown'
        exact ⟨R, h1, own_more h2 hbel.size, h3⟩

end Go.Proofs.YthmnnalamaponaaGreat

/- Part Good. -/
namespace Go.Proofs.YthmnnalamaponaaGreat
open Go.RowKit
set_option linter.unusedVariables false

theorem OwnC.lower {w : World} {base lo base' lo' : Nat} {l : List Nd} {v : Value} (h : OwnC w base lo l v) (hb : base' ≤ base) (hl : lo' ≤ lo) : OwnC w base' lo' l v := by
  obtain ⟨R, h1, h2, h3, h4, _⟩ := h
  exact ⟨R, h1, own_more h2 hb, fun r hr => (h3 r hr).mono fun b hb => ⟨Nat.le_trans hl hb.1, hb.2⟩, fun r hr => (h4 r hr).mono fun b hb => ⟨Nat.le_trans hl hb.1, hb.2⟩, fun g hg hs => hs.2.2 hg⟩

/-- What Good tells: nodes that may be, of the call's own, of a bounded size. -/
def GoodEnd (w : World) (e : Ending) (w' : World) : Prop :=
  ∃ (G : List Nd) (v : Value), e = .returned v ∧ OwnC w' w.heap.size w.heap.size G v ∧ GoodL G ∧ szL G ≤ 67200 ∧ Below w.heap.size w w'

/-- .. and it keeps the shape of a list of plain elements. -/
def GoodEndK (w : World) (l : List Nd) (e : Ending) (w' : World) : Prop :=
  ∃ (G : List Nd) (v : Value), e = .returned v ∧ OwnC w' w.heap.size w.heap.size G v ∧ GoodL G ∧ szL G ≤ 67200 ∧ Below w.heap.size w w' ∧ Kp l G

theorem Kp.trans {a b c : List Nd} (h : Kp a b) (h2 : Kp b c) : Kp a c := ⟨fun x => h2.1 (h.1 x), fun x => h2.2 (h.2 x)⟩

theorem goodK_any (l : List Nd) (v : Value) (w : World) (hT : Tree (· < w.heap.size) w l v) (hF : Fine l) : Calls Tryz.prog 6 #[v] w (GoodEndK w l) := by
  have hf := Lib.hid (few_any l v w hT hF)
  clear hT hF
  go_enter Tryz.func6, Tryz.ntmps6
  go_wp2_with fail
  refine hf.out.mono ?_
  rintro e w1 ⟨out, v1, rfl, hown, hsz, hb1, hkp1⟩
  have ht := hown.tree (Nat.le_refl _)
  have HG := Lib.hid (good_any out (fun b => w.heap.size ≤ b ∧ b < w1.heap.size) v1 w1 ht (fun b hb => hb.2) (by omega))
  clear ht hown
  go_wp2_with fail
  refine HG.out.mono ?_
  rintro e w2 ⟨G, v2, rfl, hG, hGz, hGok, hb2, hkp2⟩
  have hB2 := below_after hb1 hb2
  go_wp2_with fail
  go_ret
  exact ⟨G, v2, rfl, hG.lower hb1.size hb1.size, hGok, by omega, hB2, hkp1.trans hkp2⟩

theorem goodR_any (l : List Nd) (v : Value) (w : World) (hT : Tree (· < w.heap.size) w l v) (hF : Fine l) : Calls Tryz.prog 6 #[v] w (GoodEnd w) := by
  refine (goodK_any l v w hT hF).mono ?_
  rintro e w' ⟨G, v2, rfl, h1, h2, h3, h4, _⟩
  exact ⟨G, v2, rfl, h1, h2, h3, h4⟩

end Go.Proofs.YthmnnalamaponaaGreat
