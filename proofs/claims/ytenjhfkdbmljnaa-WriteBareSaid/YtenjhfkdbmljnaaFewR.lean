/- strainerref03.Few: its walk; the words for the walk of good. -/
import Derived.Test.YtenjhfkdbmljnaaCutR
import Derived.Test.YtenjhfkdbmljnaaMergeR
import Derived.Test.YtenjhfkdbmljnaaGoodM
import Derived.Test.YtenjhfkdbmljnaaWordR
import Derived.Test.YtenjhfkdbmljnaaValR
import Derived.Deep.DeepCutAuto
namespace Go.Proofs.Ytenjhfkdbmljnaa
open Go.RowKit
set_option linter.unusedVariables false
set_option linter.unusedSimpArgs false

theorem few_any (l : List Nd) (v : Value) (w : World) (hT : Tree (· < w.heap.size) w l v) (hF : Fine l) :
    Calls Try.prog 19 #[v] w fun e w' => ∃ (out : List Nd) (v' : Value), e = .returned v' ∧ OwnC w' w.heap.size w.heap.size out v' ∧ szL out ≤ 16800 ∧ Below w.heap.size w w' ∧ Kp l out := by
  go_enter Try.func19, Try.ntmps19
  go_wp2_with fail
  refine (cut_any l (· < w.heap.size) v 40 w hT (fun b hb => hb) hF (by omega)).mono ?_
  rintro e w1 ⟨out, v', m, rfl, hm, hown, hsz, hb, hkp⟩
  go_wp2_with fail
  go_ret
  exact ⟨out, v', rfl, hown, by omega, hb, hkp⟩

theorem Kp.snocT {l out : List Nd} {k : Nat} {n : Nd} (h : Kp l out) (hn : l[k]? = some n) (hk : n.kind = 2 ∨ n.kind = 3) (t : ByteArray) : Kp l (out ++ [.mk n.kind ⟨#[]⟩ [] t []]) := by
  have hm := List.mem_of_getElem? hn
  refine ⟨fun hs q hq => ?_, fun hs q hq => ?_⟩
  · rcases List.mem_append.1 hq with hq | hq
    · exact h.1 hs q hq
    · simp at hq
      subst hq
      exact hs n hm
  · have := (hs n hm).1
    omega
theorem Kp.snocE {l out G : List Nd} {k : Nat} {n : Nd} {t : ByteArray} (h : Kp l out) (hn : l[k]? = some n) (hk : ¬ (n.kind = 2 ∨ n.kind = 3)) (ht : namedB n.name.data.toList = true → t = n.name) (h2 : Kp n.kids G) {a : List (ByteArray × ByteArray)} (ha : ∀ y ∈ a, ∃ x ∈ n.attrs, AttN x.1 y.1) :
    Kp l (out ++ [.mk 1 t a ⟨#[]⟩ G]) := by
  have hm := List.mem_of_getElem? hn
  refine ⟨fun hs q hq => ?_, fun hs q hq => ?_⟩
  · exact absurd (.inl (hs n hm)) hk
  · rcases List.mem_append.1 hq with hq | hq
    · exact h.2 hs q hq
    · simp at hq
      subst hq
      obtain ⟨e1, e2, e4, e3⟩ := hs n hm
      rw [e2] at ht
      refine ⟨rfl, ht (by decide +kernel), fun y hy => ?_, h2.1 e3⟩
      obtain ⟨x, hx, e⟩ := ha y hy
      have e5 := e.2
      rw [e4 x hx] at e5
      exact e5 (by decide +kernel)
theorem mergeB_inv (P : Nd → Prop) (hP : ∀ x t, P x → P (.mk x.kind x.name x.attrs t x.kids)) : ∀ (l acc : List Nd), (∀ q ∈ acc, P q) → (∀ q ∈ l, P q) → ∀ q ∈ l.foldl mstep acc, P q
  | [], acc, ha, _ => ha
  | n :: l, acc, ha, hl => by
    refine mergeB_inv P hP l (mstep acc n) ?_ (fun q hq => hl q (List.mem_cons_of_mem _ hq))
    unfold mstep
    split
    · exact ha
    · split
      · rename_i h
        rcases List.eq_nil_or_concat acc with rfl | ⟨m, x, rfl⟩
        · simp [lastText] at h
        · rw [List.concat_eq_append] at ha ⊢
          rw [mglue_snoc]
          intro q hq
          rcases List.mem_append.1 hq with hq | hq
          · exact ha q (List.mem_append_left _ hq)
          · simp at hq
            subst hq
            exact hP _ _ (ha x (by simp))
      · intro q hq
        rcases List.mem_append.1 hq with hq | hq
        · exact ha q hq
        · simp at hq
          subst hq
          exact hl _ (by simp)
theorem Kp.merge {l out : List Nd} (h : Kp l out) : Kp l (mergeB out) := by
  refine ⟨fun hs => ?_, fun hs => ?_⟩
  · exact mergeB_inv (fun q => q.kind = 2) (fun x t hx => hx) out [] (fun q hq => by cases hq) (h.1 hs)
  · exact mergeB_inv (fun m => m.kind = 1 ∧ m.name = ⟨#[98]⟩ ∧ (∀ a ∈ m.attrs, a.1 = ⟨#[105, 100]⟩) ∧ ShK m.kids) (fun x t hx => hx) out [] (fun q hq => by cases hq) (h.2 hs)

structure GdAt (w wr : World) (l : List Nd) (k : Nat) (out : List Nd) (v : Value) : Prop where
  le : k ≤ l.length
  own : OwnC wr w.heap.size w.heap.size out v
  sz : szL out ≤ 4 * szL (l.take k)
  ok : preOK out
  bel : Below w.heap.size w wr
  kp : Kp l out
def GdRel (w : World) (l : List Nd) (y z : Value) (wr : World) : Prop := ∃ (k : Nat) (out : List Nd), z = .int .i64 k ∧ GdAt w wr l k out y

/-- What good tells. -/
def GdEnd (w : World) (l : List Nd) (e : Ending) (w' : World) : Prop :=
  ∃ (G : List Nd) (v : Value), e = .returned v ∧ OwnC w' w.heap.size w.heap.size G v ∧ szL G ≤ 4 * szL l ∧ GoodL G ∧ Below w.heap.size w w' ∧ Kp l G

theorem preOK_snoc {out : List Nd} {n : Nd} (h : preOK out) (hn : nodeOK n) (hk : GoodL n.kids) : preOK (out ++ [n]) := by
  refine ⟨fun x hx => ?_, fun x hx => ?_⟩
  · rcases List.mem_append.1 hx with hx | hx
    · exact h.1 x hx
    · simp at hx; subst hx; exact hn
  · rcases List.mem_append.1 hx with hx | hx
    · exact h.2 x hx
    · simp at hx; subst hx; exact hk

theorem szL_snoc_take {l : List Nd} {k : Nat} {n : Nd} (h : l[k]? = some n) : szL (l.take (k + 1)) = szL (l.take k) + szN n := by
  rw [List.take_add_one, h, szL_append]
  simp [szL_cons, szL_nil]

/-- The text of a node that is none or some: an own list with a node more. -/
theorem kept_store3 {w : World} (a : Addr) (v : Value) (ob : Obj) : Kept (fun b => b ≠ a.block ∧ b < w.heap.size) w ((w.setCell a v).alloc ob) := kept_store a v ob

structure InGAt (W0 wr : World) (B : Nat) (al : List (ByteArray × ByteArray)) (j : Nat) (a : List (ByteArray × ByteArray)) (va : Value) : Prop where
  le : j ≤ al.length
  c2 : wr.cell? ⟨B, 2, none⟩ = some va
  ci : ∀ i, i ≠ 2 → wr.cell? ⟨B, i, none⟩ = W0.cell? ⟨B, i, none⟩
  fr : wr.frozen? ⟨B, 2, none⟩ = false
  fr4 : wr.frozen? ⟨B, 4, none⟩ = false
  own : wr.ownsRow W0.heap.size 35 2 va a.length (acells a)
  ok : attrsOK a
  sz : szA a ≤ 4 * szA (al.take j)
  bel : Below B W0 wr
  hz : W0.heap.size ≤ wr.heap.size
  nm : ∀ y ∈ a, ∃ x ∈ al, AttN x.1 y.1
def InGRel (W0 : World) (B : Nat) (al : List (ByteArray × ByteArray)) (y : Value) (wr : World) : Prop := ∃ (j : Nat) (a : List (ByteArray × ByteArray)) (va : Value), y = .int .i64 j ∧ InGAt W0 wr B al j a va

/-- What the making of an attribute leaves. -/
def RegEnd (W : World) (x : ByteArray × ByteArray) (s7 : Value) (wx : World) : Prop :=
  ∃ (g : Nat) (t u : ByteArray), s7 = .pointer (some ⟨g, 0, none⟩) ∧ W.heap.size ≤ g ∧ wx.cell? ⟨g, 0, none⟩ = some (.string t) ∧ wx.cell? ⟨g, 1, none⟩ = some (.string u) ∧ AttN x.1 t ∧ isB u.data.toList = true ∧
    t.size ≤ x.1.size + 7 ∧ u.size ≤ 4 * x.2.size ∧ Below W.heap.size W wx

theorem rightS_any (A : Option Addr) (c : Nat) (s : ByteArray) (w : World) (hs : Sits w w.heap.size A (Lib.byteCells s.data.toList)) (hc : s.size ≤ c) (hm : s.size ≤ 1000000) :
    Calls Try.prog 16 #[.slice A s.size c] w fun e w' => ∃ u : ByteArray, e = .returned (.string u) ∧ isB u.data.toList = true ∧ u.size ≤ 4 * s.size ∧ Below w.heap.size w w' := by
  rw [str_list] at hc hm ⊢
  refine (rightR_any A c s.data.toList w hs hc hm).mono ?_
  rintro e w' ⟨rfl, hb⟩
  exact ⟨_, rfl, isB_right _, right_len _, hb⟩

theorem sits_now (W : World) (s : ByteArray) (cap : Nat) :
    Sits (W.alloc (.cells (bytesRow s cap) 5 ((bytesRow s cap).size, (bytesRow s cap).size + 1))).drew (W.alloc (.cells (bytesRow s cap) 5 ((bytesRow s cap).size, (bytesRow s cap).size + 1))).drew.heap.size (some ⟨W.heap.size, 0, none⟩) (Lib.byteCells s.data.toList) := by
  simpa using sits_new W s cap

theorem chain1 {W w' w'' : World} {o : Obj} (h1 : Below W.drew.heap.size W.drew w') (h2 : Below (w'.alloc o).drew.heap.size (w'.alloc o).drew w'') : Below W.heap.size W w'' :=
  below_after (below_after (below_after ((Below.refl _ W).drew) h1) (((Below.refl _ w').alloc (Nat.le_refl _) o).drew)) h2
theorem chain2 {W w' w'' : World} {o : Obj} (h1 : Below (W.alloc o).drew.heap.size (W.alloc o).drew w') (h2 : Below w'.heap.size w' w'') : Below W.heap.size W w'' :=
  below_after (below_after (((Below.refl _ W).alloc (Nat.le_refl _) o).drew) h1) h2

theorem cell_keep {W w' : World} {b i : Nat} {v : Value} (hb : Below W.heap.size W w') (h : W.cell? ⟨b, i, none⟩ = some v) : w'.cell? ⟨b, i, none⟩ = some v :=
  (hb.cell (p := ⟨b, i, none⟩) (World.block_lt_of_cell? W ⟨b, i, none⟩ h)).trans h

theorem keep3 {W w' : World} {b1 i1 b2 i2 b3 i3 : Nat} {v1 v2 v3 : Value} (hb : Below W.heap.size W w') (h : W.cell? ⟨b1, i1, none⟩ = some v1 ∧ W.cell? ⟨b2, i2, none⟩ = some v2 ∧ W.cell? ⟨b3, i3, none⟩ = some v3) :
    w'.cell? ⟨b1, i1, none⟩ = some v1 ∧ w'.cell? ⟨b2, i2, none⟩ = some v2 ∧ w'.cell? ⟨b3, i3, none⟩ = some v3 := ⟨cell_keep hb h.1, cell_keep hb h.2.1, cell_keep hb h.2.2⟩

theorem bcell {W w1 : World} (hb : Below W.heap.size W w1) : (∀ b o, b < W.heap.size → w1.cell? ⟨b, o, none⟩ = W.cell? ⟨b, o, none⟩) ∧ (∀ b o, b < W.heap.size → w1.frozen? ⟨b, o, none⟩ = W.frozen? ⟨b, o, none⟩) :=
  ⟨fun b o h => hb.cell (p := ⟨b, o, none⟩) h, fun b o h => hb.frozen (p := ⟨b, o, none⟩) h⟩

end Go.Proofs.Ytenjhfkdbmljnaa
