/- dom.Weight, at every tree: its walk. -/
import Derived.Test.YthiibcjahmokpaaTell
namespace Go.Proofs.Ythiibcjahmokpaa
open Go.RowKit Go.Shelf
set_option linter.unusedVariables false
attribute [local go_sem] Oper.semAt_some

theorem box_of {W : World} {B : Nat} {v : Value} {t : TypeId} (h : W.heap[B]? = some (.cells #[v] t (0, 0))) : W.cell? ⟨B, 0, none⟩ = some v ∧ W.frozen? ⟨B, 0, none⟩ = false := by
  constructor <;> simp [World.cell?, World.frozen?, h]
theorem box_new (W : World) (v : Value) (t : TypeId) : (W.alloc (.cells #[v] t)).cell? ⟨W.heap.size, 0, none⟩ = some v ∧ (W.alloc (.cells #[v] t)).frozen? ⟨W.heap.size, 0, none⟩ = false := box_of (World.alloc_heap_new W _)
theorem box_past {W : World} {a : Addr} {v : Value} (o : Obj) (h : W.cell? a = some v) : (W.alloc o).cell? a = some v := cell_kept h (World.grownBy_alloc W o none) (fun r e => by cases e)
theorem box_past_f {W : World} {a : Addr} {v : Value} (o : Obj) (h : W.cell? a = some v) (hf : W.frozen? a = false) : (W.alloc o).frozen? a = false := (frozen_kept h (World.grownBy_alloc W o none) (fun r e => by cases e)).trans hf

/-- What nodes weigh, one by one. -/
def wtN (n : Nd) : Nat := 1 + n.attrs.length
def wtL (l : List Nd) : Nat := (l.map wtN).sum
theorem wtL_snoc (l : List Nd) (n : Nd) : wtL (l ++ [n]) = wtL l + wtN n := by simp [wtL]

/-- The list at a place is not too great. -/
def PW (l : List Nd) (_ : Nat) : Prop := szL l ≤ 100000
theorem allP_sz : ∀ l : List Nd, szL l ≤ 100000 → AllP PW l := by
  intro l
  induction l using nd_ind with
  | h l ih =>
    intro hs
    exact .mk l (fun i n _ => hs) (fun i n hn => ih i n hn (by have := szL_kids hn; omega))
theorem wtN_le {l : List Nd} {i : Nat} {n : Nd} (h : l[i]? = some n) (hs : szL l ≤ 100000) : wtN n ≤ 10001 := by
  have h1 := szL_at h
  rw [szN_eq] at h1
  have h2 := szA_len n.attrs
  unfold wtN
  omega
theorem pos_wt {w0 : World} {S : Nat → Prop} : ∀ pre : List (Pos w0 S PW), wtL (pre.map Pos.n) ≤ 10001 * pre.length
  | [] => by simp [wtL]
  | x :: pre => by
    have h1 := pos_wt pre
    have h2 := wtN_le x.at_ x.ok
    have h3 : wtL ((x :: pre).map Pos.n) = wtN x.n + wtL (pre.map Pos.n) := by simp [wtL]
    rw [h3, List.length_cons]
    omega
theorem allN_sz : ∀ l : List Nd, 10 * (allN l).length ≤ szL l := by
  intro l
  induction l using nd_ind with
  | h l ih =>
    have key : ∀ m : List Nd, (∀ x ∈ m, 10 * (allN x.kids).length ≤ szL x.kids) → 10 * (allN m).length ≤ szL m := by
      intro m
      induction m with
      | nil => intro _; simp [allN_nil, szL]
      | cons x m ihm =>
        intro h
        have h1 := h x (by simp)
        have h2 := ihm fun y hy => h y (by simp [hy])
        have h3 := szN_eq x
        rw [allN_cons, szL_cons, List.length_cons, List.length_append]
        omega
    exact key l fun x hx => by
      obtain ⟨i, hi, he⟩ := List.mem_iff_getElem.1 hx
      exact ih i x (by rw [List.getElem?_eq_getElem hi, he])

theorem i64_id (n : Int) (h0 : -1000000000000 ≤ n) (h1 : n ≤ 1000000000000) : IntKind.i64.wrap n = n := by rw [IntKind.wrap_i64]; omega
theorem i64_sum (s na : Nat) (h1 : na ≤ 10000) (h2 : s ≤ 1000000000) : IntKind.i64.wrap ((s : Int) + IntKind.i64.wrap (1 + (na : Int))) = (s : Int) + (1 + (na : Int)) := by
  rw [i64_id (1 + (na : Int)) (by omega) (by omega), i64_id _ (by omega) (by omega)]

set_option maxRecDepth 100000 in
set_option maxHeartbeats 2000000 in
theorem weight_any (l : List Nd) (v : Value) (w : World) (hT : Tree (· < w.heap.size) w l v) (hsz : szL l ≤ 100000) :
    Calls Try.prog 14 #[v] w fun e W' => e = .returned (.int .i64 (wtL (allN l) : Int)) ∧ Below w.heap.size w W' := by
  have hal := allN_sz l
  obtain ⟨A, c, rfl, hc⟩ := hT.shape
  refine (callsIn_wide (n := 4)).1 ?_
  refine callsIn_of_wp_marks Try.func14 rfl trivial ?_ rfl
  simp only [Try.ntmps14, List.size_toArray, List.length_cons, List.length_nil, Nat.reduceAdd, Nat.reduceSub, Array.replicate_succ, Array.replicate_zero, List.push_toArray, List.append_toArray, List.nil_append, List.cons_append]
  gi_wp2_with (refine ⟨trivial, ?_⟩; gi_at_call 10; refine (all_in Fence.wide _ trivial rfl _ ⟨_, _, _, rfl⟩ _).mono ?_; rintro e w' ⟨rfl, rfl⟩)
  have hs := box_new w (.int .i64 0) 3
  have hb := box_new (w.alloc (.cells #[.int .i64 0] 3)) (.slice A l.length c) 23
  rw [World.size_alloc] at hb
  have hB0 : Below w.heap.size w ((w.alloc (.cells #[.int .i64 0] 3)).alloc (.cells #[.slice A l.length c] 23)) := ((Below.refl _ w).alloc (Nat.le_refl _) _).alloc (by simp) _
  refine wpIn_rangeFunc_ownF rfl (by decide) (gf := 19) (lb := #[.pointer (some ⟨w.heap.size + 1, 0, none⟩)]) rfl trivial (enters_of Try.func19 (by kernel_rfl) rfl)
    (all_stops Fence.wide rfl _ trivial trivial rfl (w.heap.size + 1) w.heap.size w (· < w.heap.size) (fun _ h => h) PW l (.slice A l.length c) (allP_sz l hsz) hsz hT _ hB0 (by simp; omega) (by simp) hb.1) belowK_t (belowK_b (by simp; omega)) (Below.refl _ _) (fun _ => rfl)
    (fun pre W => (W.cell? ⟨w.heap.size, 0, none⟩ = some (.int .i64 (wtL (pre.map Pos.n) : Int)) ∧ W.frozen? ⟨w.heap.size, 0, none⟩ = false) ∧ Below w.heap.size w W)
    (fun _ _ _ => False)
    (OwnFrom.and (Own.from (fun s A B row hs hg hr => ⟨cell_kept hs.1 hg hr, (frozen_kept hs.1 hg hr).trans hs.2⟩) _) (ownFrom_below (Nat.le_refl _) (by simp; omega)))
    (fun _ _ _ _ _ hs _ _ => hs)
    ⟨⟨box_past _ hs.1, box_past_f _ hs.1 hs.2⟩, hB0⟩
    (fun x => { tmps := #[.slice A l.length c, undef, .int .i64 0, .pointer (some ⟨w.heap.size, 0, none⟩), x.v, .int .i64 (x.i : Int), .slice A l.length c, .func (.func 19) #[] #[.pointer (some ⟨w.heap.size + 1, 0, none⟩)], x.v, .int .i64 (x.i : Int), undef, undef, undef, undef, undef, undef, undef, undef, undef, undef], defers := [] }) ?assign ?body ?done ?stop
  case assign =>
    intro lp x W K hK
    obtain ⟨A', c', hv, _⟩ := x.tree.shape
    simp only [Pos.encs, hv] at hK ⊢
    gi_wp2
    exact hK
  case body =>
    rintro lp pre x W ⟨⟨hc, hf⟩, hB⟩ hpl
    have hmx : Try.prog.follows .mixedOrders = true := by kernel_rfl
    have hlt := (List.getElem?_eq_some_iff.1 x.at_).1
    obtain ⟨b, o, c', hv, _, hSb, hcell⟩ := x.tree.open_ (by omega)
    obtain ⟨va, vk, hat⟩ := hcell x.i x.n x.at_
    obtain ⟨A1, c1, rfl, _⟩ := id hat.at_
    have hsx : szL x.l ≤ 100000 := x.ok
    have hle := szL_len x.l
    have q2 : W.cell? ⟨b, o + x.i * 5 + 2, none⟩ = some (.slice A1 x.n.attrs.length c1) := (hB.cell (p := ⟨b, o + x.i * 5 + 2, none⟩) hSb).trans hat.c2
    have hw1 := pos_wt pre
    have hw2 := wtN_le x.at_ x.ok
    have hsum : ((wtL (pre.map Pos.n) : Nat) : Int) + (1 + (x.n.attrs.length : Int)) = ((wtL ((pre ++ [x]).map Pos.n) : Nat) : Int) := by
      rw [List.map_append, List.map_cons, List.map_nil, wtL_snoc]
      unfold wtN
      omega
    have hle2 : x.n.attrs.length ≤ 10000 := by unfold wtN at hw2; omega
    have hle3 : wtL (pre.map Pos.n) ≤ 1000000000 := by omega
    have HSUM := Lib.hid hsum
    rw [hv]
    obtain ⟨i, hi⟩ : ∃ i, x.i = i := ⟨_, rfl⟩
    obtain ⟨m, hm⟩ : ∃ m, x.l.length = m := ⟨_, rfl⟩
    obtain ⟨na, hna⟩ : ∃ na, x.n.attrs.length = na := ⟨_, rfl⟩
    obtain ⟨s, hs⟩ : ∃ s, wtL (pre.map Pos.n) = s := ⟨_, rfl⟩
    rw [hi, hm] at hlt
    rw [hm] at hle
    rw [hi, hna] at q2
    rw [hna] at hle2
    rw [hs] at hle3 hc
    rw [hi, hm]
    have hwr : IntKind.i64.wrap ((s : Int) + IntKind.i64.wrap (1 + (na : Int))) = ((wtL ((pre ++ [x]).map Pos.n) : Nat) : Int) := by
      rw [← hsum, hs, hna]; exact i64_sum _ _ hle2 hle3
    have HI := Lib.hid (And.intro hna hs)
    clear hsum hi hm hna hs hv hcell hat hw1 hw2 hpl
    gi_wp2
    gi_region_with_o (fail)
    all_goals gi_wp2
    all_goals exact ⟨(KeepsOthers.setCell _ _ _).trans (KeepsOthers.drew _), ((Below.refl w.heap.size W).setCell (p := ⟨w.heap.size, 0, none⟩) (Nat.le_refl _) _).drew, ⟨by rw [cell_drew_own, List.map_append]; exact World.cell?_setCell_same' _ _ _ (by rw [hc]; rfl), by rw [frozen_drew_own, World.frozen?_setCell]; exact hf⟩, (hB.setCell (p := ⟨w.heap.size, 0, none⟩) (Nat.le_refl _) _).drew⟩
  case done =>
    rintro D ys W hD hys ⟨⟨hc, _⟩, hB⟩ hK
    rw [hys] at hc
    gi_wp2
    refine ⟨by simp, .inl ⟨_, _, rfl, run_takeDeferred hK, ?_⟩⟩
    exact ⟨_, results_tmp rfl _ _ _, rfl, hB.trans (belowK_b (w := w) (Nat.le_refl _) W D _ _ (by simp at hD; omega) hK rfl rfl)⟩
  case stop =>
    rintro D c pre W _ _ h _
    exact h.elim

end Go.Proofs.Ythiibcjahmokpaa
