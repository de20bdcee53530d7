/- dom.all, dom.tell: a range over all nodes, each ahead of its kids: its contract, at every tree. -/
import Derived.RangeFuncNested
import Derived.RangeFuncBound
import Derived.RangeFuncCalls
import Derived.RangeFuncLeaves
import Derived.Shelf.Abstract
import Derived.Shelf.RegionOpen
import Derived.WalkKit
import Derived.OwnWalkIn
import Derived.TacticsInMore
import Derived.LoopNIn
import Derived.LoopIn
import Derived.Test.YthiibcjahmokpaaTreeA
namespace Go.Proofs.Ythiibcjahmokpaa
open Go.RowKit Go.Shelf
set_option linter.unusedVariables false
attribute [local go_sem] Oper.semAt_some

theorem room_none {F : Fence} (hd : F.depth = none) (k : Nat) : F.room k := fun d h => by rw [hd] at h; cases h
theorem RoundIn.deep {F : Fence} (hd : F.depth = none) {m m' : Nat} {P : Program} {l : Nat} {f : FuncId} {tmps : Array Value} {assign body : Code} {w : World} {R : Ending → World → Prop}
    (h : RoundIn F m P l f tmps assign body w R) : RoundIn F m' P l f tmps assign body w R := ⟨h.1, fun c cs _ => h.2 c cs (room_none hd _)⟩
theorem YieldAt.deep {F : Fence} (hd : F.depth = none) {m : Nat} (m' : Nat) {P : Program} {l : Nat} {args : Array Value} {W : World} {R : Ending → World → Prop} (h : YieldAt F m P l args W R) : YieldAt F m' P l args W R := by
  obtain ⟨fn, tmps, assign, body, hy, hR⟩ := h
  exact ⟨fn, tmps, assign, body, hy, RoundIn.deep hd hR⟩

mutual
/-- A node and all that stand in it, each ahead of its kids. -/
def allNd : Nd → List Nd
  | .mk k n a t ks => .mk k n a t ks :: allN ks
def allN : List Nd → List Nd
  | [] => []
  | n :: l => allNd n ++ allN l
end
theorem allNd_eq (n : Nd) : allNd n = n :: allN n.kids := by cases n; simp [allNd, Nd.kids]
theorem allN_nil : allN [] = [] := by simp [allN]
theorem allN_cons (n : Nd) (l : List Nd) : allN (n :: l) = n :: (allN n.kids ++ allN l) := by simp [allN, allNd_eq]
theorem allN_append : ∀ (a b : List Nd), allN (a ++ b) = allN a ++ allN b
  | [], b => by simp [allN_nil]
  | x :: a, b => by rw [List.cons_append, allN_cons, allN_cons, allN_append a b]; simp
theorem allN_take {l : List Nd} {i : Nat} {n : Nd} (h : l[i]? = some n) : allN (l.take (i + 1)) = allN (l.take i) ++ n :: allN n.kids := by
  rw [List.take_add_one, h, allN_append]
  simp [allN_cons, allN_nil]
theorem allN_len_take (l : List Nd) (i : Nat) : (allN (l.take i)).length ≤ (allN l).length := by
  have : allN l = allN (l.take i) ++ allN (l.drop i) := by rw [← allN_append, List.take_append_drop]
  rw [this, List.length_append]
  omega

/-- Something holds at each place of a list, and of all that stand in it. -/
inductive AllP (P : List Nd → Nat → Prop) : List Nd → Prop
  | mk (l : List Nd) (h : ∀ (i : Nat) (n : Nd), l[i]? = some n → P l i) (hk : ∀ (i : Nat) (n : Nd), l[i]? = some n → AllP P n.kids) : AllP P l

/-- A place: a list that lies in a world's blocks of S, a number, the node there. -/
structure Pos (w0 : World) (S : Nat → Prop) (P : List Nd → Nat → Prop) where
  v : Value
  i : Nat
  l : List Nd
  n : Nd
  tree : Tree S w0 l v
  at_ : l[i]? = some n
  ok : P l i
def Pos.encs {w0 : World} {S : Nat → Prop} {P : List Nd → Nat → Prop} (x : Pos w0 S P) : Array Value := #[x.v, .int .i64 (x.i : Int)]

set_option maxHeartbeats 2000000 in
set_option maxRecDepth 100000 in
theorem tell_in (F : Fence) (hd : F.depth = none) (hf : F.fn 20) (hro : F.round = none) (lp n₀ N : Nat) (w0 : World) (S : Nat → Prop) (hS : ∀ b, S b → b < n₀) (P : List Nd → Nat → Prop)
    (J Jx : List (Pos w0 S P) → World → Prop)
    (hY : ∀ (m : Nat) (pre : List (Pos w0 S P)) (x : Pos w0 S P) (W : World), J pre W → pre.length < N → YieldAt F m Try.prog lp x.encs W fun e W' =>
      (e = .returned (.bool true) ∧ J (pre ++ [x]) W' ∧ Below n₀ W W') ∨ (e = .returned (.bool false) ∧ Jx (pre ++ [x]) W')) (l : List Nd) :
    ∀ (n : Nat) (v : Value) (pre : List (Pos w0 S P)) (W : World), AllP P l → szL l ≤ 100000 → Tree S w0 l v → Below n₀ w0 W → J pre W → pre.length + (allN l).length ≤ N →
      CallsIn F n Try.prog 20 #[v, .func (.yield lp) #[] #[]] W fun e W' =>
        (e = .returned (.bool true) ∧ (∃ ys : List (Pos w0 S P), ys.map Pos.n = allN l ∧ J (pre ++ ys) W') ∧ Below n₀ W W') ∨ (e = .returned (.bool false) ∧ ∃ q, Jx (pre ++ q) W') := by
  induction l using nd_ind with
  | h l ih =>
  intro n v pre W hP hsz hT hB hJ hN
  have hlen := szL_len l
  have hdd : ∀ k : Nat, (F.depth.isSome = true → 1 ≤ k) := fun k h => by rw [hd] at h; cases h
  obtain ⟨A, c, rfl, hc⟩ := hT.shape
  refine callsIn_of_wp Try.func20 rfl hf ?_ hro
  simp only [Try.ntmps20, List.size_toArray, List.length_cons, List.length_nil, Nat.reduceAdd, Nat.reduceSub, Array.replicate_succ, Array.replicate_zero, List.push_toArray, List.append_toArray, List.nil_append, List.cons_append]
  gi_wp2
  gi_loopw [8] (fun x wr => ∃ (i : Nat) (ys : List (Pos w0 S P)), x = .int .i64 i ∧ i ≤ l.length ∧ ys.map Pos.n = allN (l.take i) ∧ J (pre ++ ys) wr ∧ Below n₀ W wr) (fun x _ => l.length - (intOf x).toNat)
  case atStart => exact ⟨0, [], rfl, by omega, by simp [allN_nil], by simpa using hJ, Below.refl _ _⟩
  case round =>
    obtain ⟨i, ys, rfl, hi, hys, hJs, hBs⟩ := hrel
    by_cases hlt : i < l.length
    · obtain ⟨b, o, c', hv, _, hSb, hcell⟩ := hT.open_ (by omega)
      injection hv with hA _ hcc
      subst hA
      subst hcc
      obtain ⟨x, hx⟩ : ∃ x, l[i]? = some x := ⟨_, List.getElem?_eq_getElem hlt⟩
      obtain ⟨va, vk, hat⟩ := hcell i x hx
      have hPi : P l i := by cases hP with | mk l h hk => exact h i x hx
      have hPk : AllP P x.kids := by cases hP with | mk l h hk => exact hk i x hx
      have hyl : ys.length = (allN (l.take i)).length := by rw [← hys, List.length_map]
      have hst := allN_take hx
      have hle1 := allN_len_take l (i + 1)
      rw [hst, List.length_append, List.length_cons] at hle1
      have hle2 := szL_kids hx
      have hy0 := hY (n - 1) (pre ++ ys) ⟨_, i, l, x, hT, hx, hPi⟩ wr hJs (by rw [List.length_append]; omega)
      have hy2 := hy0.mono (R' := fun e W' =>
        (e = .returned (.bool true) ∧ W'.cell? ⟨b, o + i * 5 + 4, none⟩ = some vk ∧ CallsIn F (n - 1) Try.prog 20 #[vk, .func (.yield lp) #[] #[]] W' fun e W'' =>
          (e = .returned (.bool true) ∧ (∃ zs : List (Pos w0 S P), zs.map Pos.n = allN (l.take (i + 1)) ∧ J (pre ++ zs) W'') ∧ Below n₀ W W'') ∨ (e = .returned (.bool false) ∧ ∃ q, Jx (pre ++ q) W'')) ∨
        (e = .returned (.bool false) ∧ ∃ q, Jx (pre ++ q) W')) (fun e W' h => h.elim
          (fun ⟨he, hj, hb⟩ => .inl ⟨he, (((hB.trans hBs).trans hb).cell (p := ⟨b, o + i * 5 + 4, none⟩) (hS b hSb)).trans hat.c4,
            (ih i x hx (n - 1) vk (pre ++ ys ++ [⟨_, i, l, x, hT, hx, hPi⟩]) W' hPk (by omega) hat.kids ((hB.trans hBs).trans hb) hj (by simp only [List.length_append, List.length_singleton]; omega)).mono (fun e W'' h => h.elim
              (fun ⟨he, ⟨zs, hz, hjz⟩, hb2⟩ => .inl ⟨he, ⟨ys ++ (⟨_, i, l, x, hT, hx, hPi⟩ : Pos w0 S P) :: zs, by rw [hst, List.map_append, List.map_cons, hys, hz], by simpa using hjz⟩, (hBs.trans hb).trans hb2⟩)
              (fun ⟨he, q, hq⟩ => .inr ⟨he, ys ++ (⟨_, i, l, x, hT, hx, hPi⟩ : Pos w0 S P) :: q, by simpa using hq⟩))⟩)
          (fun ⟨he, hq⟩ => .inr ⟨he, ys ++ [⟨_, i, l, x, hT, hx, hPi⟩], by simpa using hq⟩))
      obtain ⟨fn, tmps, assign, body, hy, hR⟩ := hy2
      simp only [Pos.encs] at hy
      clear hy0 hst hle1 hcell hat hyl hys hN hY ih
      gi_wp2_with (first
        | ((try refine ⟨hdd _, ?_⟩); refine hR.mono ?_; clear hR; rintro e W2 (⟨rfl, c4, hcall⟩ | ⟨rfl, q, hq⟩))
        | ((try refine ⟨hdd _, ?_⟩); gi_at_call 20; refine hcall.mono ?_; clear hcall; rintro e W3 (⟨rfl, ⟨zs, hz, hjz⟩, hb3⟩ | ⟨rfl, q, hq⟩)))
      · go_roundw
        case rel => exact ⟨i + 1, zs, by go_num, by omega, hz, hjz, hb3⟩
        case measure => simp [intOf]; omega
      · go_ret
        exact .inr ⟨rfl, q, hq⟩
      · go_ret
        exact .inr ⟨rfl, q, hq⟩
    · have hil : i = l.length := by omega
      subst hil
      rw [List.take_length] at hys
      gi_wp2
      go_ret
      exact .inl ⟨rfl, ⟨ys, hys, hJs⟩, hBs⟩

/-- What all tells one by one: the closure that it hands back. -/
theorem all1_in (F : Fence) (hd : F.depth = none) (n : Nat) (h1 : F.fn 19) (hf : F.fn 20) (hro : F.round = none) (lp Bt n₀ : Nat) (w0 : World) (S : Nat → Prop) (hS : ∀ b, S b → b < n₀) (P : List Nd → Nat → Prop)
    (l : List Nd) (v : Value) (hP : AllP P l) (hsz : szL l ≤ 100000) (hT : Tree S w0 l v) (J Jx : List (Pos w0 S P) → World → Prop)
    (hY : ∀ (pre : List (Pos w0 S P)) (x : Pos w0 S P) (W : World), J pre W → pre.length < (allN l).length → YieldAt F (n - 1) Try.prog lp x.encs W fun e W' =>
      (e = .returned (.bool true) ∧ J (pre ++ [x]) W' ∧ Below n₀ W W') ∨ (e = .returned (.bool false) ∧ Jx (pre ++ [x]) W'))
    (W : World) (hB : Below n₀ w0 W) (hBt : W.cell? ⟨Bt, 0, none⟩ = some v) (h0 : J [] W) :
    CallsIn F n Try.prog 19 #[.func (.yield lp) #[] #[], .pointer (some ⟨Bt, 0, none⟩)] W fun e W' => (∃ v, e = .returned v) ∧
      ((∃ ys : List (Pos w0 S P), ys.map Pos.n = allN l ∧ J ys W') ∨ (∃ pre : List (Pos w0 S P), True ∧ Jx pre W')) := by
  have hdd : ∀ k : Nat, (F.depth.isSome = true → 1 ≤ k) := fun k h => by rw [hd] at h; cases h
  have hp := tell_in F hd hf hro lp n₀ (allN l).length w0 S hS P J Jx (fun m pre x W hj hl => YieldAt.deep hd m (hY pre x W hj hl)) l (n - 1) v [] W hP hsz hT hB h0 (by simp)
  obtain ⟨A, c, rfl, hc⟩ := hT.shape
  refine callsIn_of_wp Try.func19 rfl h1 ?_ hro
  simp only [Try.ntmps19, List.size_toArray, List.length_cons, List.length_nil, Nat.reduceAdd, Nat.reduceSub, Array.replicate_succ, Array.replicate_zero, List.push_toArray, List.append_toArray, List.nil_append, List.cons_append]
  gi_wp2_with ((try refine ⟨hdd _, ?_⟩); gi_at_call 20; refine hp.mono ?_; clear hp; rintro e W1 (⟨rfl, ⟨ys, hys, hJ1⟩, _⟩ | ⟨rfl, q, hx⟩))
  · go_end0
    exact ⟨⟨_, rfl⟩, .inl ⟨ys, hys, by simpa using hJ1⟩⟩
  · go_end0
    exact ⟨⟨_, rfl⟩, .inr ⟨_, trivial, hx⟩⟩

/-- dom.all: the list is boxed; the function value captures the box. -/
theorem all_in (F : Fence) (n : Nat) (h : F.fn 10) (hro : F.round = none) (v : Value) (hv : ∃ A n c, v = .slice A n c) (w : World) :
    CallsIn F n Try.prog 10 #[v] w fun e w' => e = .returned (.func (.func 19) #[] #[.pointer (some ⟨w.heap.size, 0, none⟩)]) ∧ w' = w.alloc (.cells #[v] 23) := by
  obtain ⟨A, m, c, rfl⟩ := hv
  refine callsIn_of_wp Try.func10 rfl h ?_ hro
  simp only [Try.ntmps10, List.size_toArray, List.length_cons, List.length_nil, Nat.reduceAdd, Nat.reduceSub, Array.replicate_succ, Array.replicate_zero, List.push_toArray, List.append_toArray, List.nil_append, List.cons_append]
  gi_wp2
  go_ret
  exact ⟨rfl, rfl⟩

/-- dom.all hands back what tells all nodes of the list, each ahead of its kids; or some of them. -/
theorem all_stops (F : Fence) (hd : F.depth = none) (n : Nat) (h1 : F.fn 19) (hf : F.fn 20) (hro : F.round = none) (Bt n₀ : Nat) (w0 : World) (S : Nat → Prop) (hS : ∀ b, S b → b < n₀) (P : List Nd → Nat → Prop)
    (l : List Nd) (v : Value) (hP : AllP P l) (hsz : szL l ≤ 100000) (hT : Tree S w0 l v) (w : World) (hB : Below n₀ w0 w) (hn : n₀ ≤ w.heap.size) (hBt : Bt < w.heap.size) (hc : w.cell? ⟨Bt, 0, none⟩ = some v) :
    SeqStopsK F n Try.prog 19 #[.pointer (some ⟨Bt, 0, none⟩)] (Pos.encs (w0 := w0) (S := S) (P := P)) (Below n₀) (fun ys => ys.map Pos.n = allN l) (fun _ => True) (allN l).length w := fun lp J Jx W hW _ _ hY h0 =>
  all1_in F hd n h1 hf hro lp Bt n₀ w0 S hS P l v hP hsz hT J Jx hY W (hB.trans (hW.mono hn)) ((hW.cell (p := ⟨Bt, 0, none⟩) hBt).trans hc) h0

end Go.Proofs.Ythiibcjahmokpaa
