/- dom.May, of nodes that may be: its walk. -/
import Derived.Test.YthiibcjahmokpaaDomW
import Derived.Test.YthiibcjahmokpaaDomG
import Derived.Test.YthiibcjahmokpaaStillIn
namespace Go.Proofs.Ythiibcjahmokpaa
open Go.RowKit Go.Shelf
set_option linter.unusedVariables false
attribute [local go_sem] Oper.semAt_some
attribute [local irreducible] wpStill

/-- The document's example. -/
def elx : Nd := .mk 1 ⟨#[97]⟩ [(idS, ⟨#[49]⟩)] ⟨#[]⟩ [pn 2 ⟨#[120]⟩]
def Passes (b : Bool) (n : Nd) : Prop := (PN n ∧ n.text.size ≤ 100000 ∧ (n.kind = 2 → n.text.data.toList ≠ [] ∧ b = false)) ∨ n = elx

theorem fault_any (S : Nat → Prop) (b : Bool) (n : Nd) (h : Passes b n) (va vk : Value) (w : World) (hat : AttrsAt S w n.attrs va) (hk : Tree S w n.kids vk) (hS : ∀ b, S b → b < w.heap.size) :
    Calls Try.prog 11 #[.agg #[.int .i64 n.kind, .string n.name, va, .string n.text, vk], .bool b] w fun e w' => e = .returned (.int .i64 0) ∧ Below w.heap.size w w' := by
  rcases h with ⟨hp, hs, h2⟩ | rfl
  · obtain ⟨A1, c1, rfl, _⟩ := hat
    obtain ⟨A2, c2, rfl, _⟩ := hk.shape
    rw [hp.attrs, hp.kids, hp.name]
    exact fault_plain n.kind hp.kind n.text A1 A2 c1 c2 b w hp.ok h2 hs
  · obtain ⟨b', o, c, rfl, _, hS', hx⟩ := hat.at_ (by decide)
    obtain ⟨A2, c2, rfl, _⟩ := hk.shape
    have h0 := hx 0 (idS, ⟨#[49]⟩) rfl
    exact fault_el b' o c _ c2 A2 b w (hS _ hS') (by simpa using h0.1) (by simpa using h0.2)

theorem keeps_of_below {w w' : World} (h : Below w.heap.size w w') : KeepsOthers w w' := ⟨h.size, fun j o hj _ => (h.block j (Array.getElem?_eq_some_iff.1 hj).1).trans hj⟩
theorem box_lt {w : World} {p : Addr} {v : Value} (h : w.cell? p = some v) : p.block < w.heap.size := by
  rcases Nat.lt_or_ge p.block w.heap.size with hlt | hge
  · exact hlt
  · unfold World.cell? at h
    rw [Array.getElem?_eq_none hge] at h
    cases h
theorem frozen_below {w w' : World} (h : Below w.heap.size w w') {p : Addr} (hp : p.block < w.heap.size) : w'.frozen? p = w.frozen? p := by
  have := h.block p.block hp
  unfold World.frozen?
  rw [this]

/-- What is asked at each place. -/
def PM (l : List Nd) (i : Nat) : Prop := szL l ≤ 100000 ∧ ∀ n, l[i]? = some n → Passes (behind l i) n

set_option maxRecDepth 100000 in
set_option maxHeartbeats 2000000 in
theorem may_any (l : List Nd) (v : Value) (w : World) (hT : Tree (· < w.heap.size) w l v) (hsz : szL l ≤ 100000) (hP : AllP PM l) :
    Calls Try.prog 5 #[v] w fun e W' => e = .returned (.int .i64 0) ∧ Below w.heap.size w W' := by
  obtain ⟨A, c, rfl, hc⟩ := hT.shape
  refine (callsIn_wide (n := 4)).1 ?_
  refine callsIn_of_wp_marks Try.func5 rfl trivial ?_ rfl
  simp only [Try.ntmps5, List.size_toArray, List.length_cons, List.length_nil, Nat.reduceAdd, Nat.reduceSub, Array.replicate_succ, Array.replicate_zero, List.push_toArray, List.append_toArray, List.nil_append, List.cons_append]
  gi_wp2_with (refine ⟨trivial, ?_⟩; gi_at_call 10; refine (all_in Fence.wide _ trivial rfl _ ⟨_, _, _, rfl⟩ _).mono ?_; rintro e w' ⟨rfl, rfl⟩)
  have hs := box_new w (.int .i64 0) 29
  have hb := box_new (w.alloc (.cells #[.int .i64 0] 29)) (.slice A l.length c) 23
  rw [World.size_alloc] at hb
  have hB0 : Below w.heap.size w ((w.alloc (.cells #[.int .i64 0] 29)).alloc (.cells #[.slice A l.length c] 23)) := ((Below.refl _ w).alloc (Nat.le_refl _) _).alloc (by simp) _
  refine wpIn_rangeFunc_ownF rfl (by decide) (gf := 19) (lb := #[.pointer (some ⟨w.heap.size + 1, 0, none⟩)]) rfl trivial (enters_of Try.func19 (by kernel_rfl) rfl)
    (all_stops Fence.wide rfl _ trivial trivial rfl (w.heap.size + 1) w.heap.size w (· < w.heap.size) (fun _ h => h) PM l (.slice A l.length c) hP hsz hT _ hB0 (by simp; omega) (by simp) hb.1) belowK_t (belowK_b (by simp; omega)) (Below.refl _ _) (fun _ => rfl)
    (fun pre W => (W.cell? ⟨w.heap.size, 0, none⟩ = some (.int .i64 0) ∧ W.frozen? ⟨w.heap.size, 0, none⟩ = false) ∧ Below w.heap.size w W)
    (fun _ _ _ => False)
    (OwnFrom.and (Own.from (fun s A B row hs hg hr => ⟨cell_kept hs.1 hg hr, (frozen_kept hs.1 hg hr).trans hs.2⟩) _) (ownFrom_below (Nat.le_refl _) (by simp; omega)))
    (fun _ _ _ _ _ hs _ _ => hs)
    ⟨⟨box_past _ hs.1, box_past_f _ hs.1 hs.2⟩, hB0⟩
    (fun x => { tmps := #[.slice A l.length c, undef, .pointer (some ⟨w.heap.size, 0, none⟩), x.v, .int .i64 (x.i : Int), undef, .slice A l.length c, .func (.func 19) #[] #[.pointer (some ⟨w.heap.size + 1, 0, none⟩)], x.v, .int .i64 (x.i : Int), undef, undef, undef, undef, undef, undef, undef, undef, undef, undef, undef, undef, undef, undef, undef, undef, undef, undef, undef], defers := [] }) ?assign ?body ?done ?stop
  case assign =>
    intro lp x W K hK
    obtain ⟨A', c', hv, _⟩ := x.tree.shape
    simp only [Pos.encs, hv] at hK ⊢
    gi_wp2
    exact hK
  case body =>
    rintro lp pre x W ⟨⟨hc, hf⟩, hB⟩ hpl
    have hmx : Try.prog.follows .mixedOrders = true := by kernel_rfl
    have hlt := (List.getElem?_eq_some_iff.1 x.at_).1
    obtain ⟨b, o, c', hv, _, hSb, hcell⟩ := x.tree.open_ (by omega)
    obtain ⟨va, vk, hat⟩ := hcell x.i x.n x.at_
    have hsx : szL x.l ≤ 100000 := x.ok.1
    have hps := x.ok.2 x.n x.at_
    have hle := szL_len x.l
    obtain ⟨A1, c1, hva, _⟩ := id hat.at_
    obtain ⟨A2, c2, hvk, _⟩ := hat.kids.shape
    have q0 : W.cell? ⟨b, o + x.i * 5, none⟩ = some (.int .i64 x.n.kind) := (hB.cell (p := ⟨b, o + x.i * 5, none⟩) hSb).trans hat.c0
    have q1 : W.cell? ⟨b, o + x.i * 5 + 1, none⟩ = some (.string x.n.name) := (hB.cell (p := ⟨b, o + x.i * 5 + 1, none⟩) hSb).trans hat.c1
    have q2 : W.cell? ⟨b, o + x.i * 5 + 2, none⟩ = some va := (hB.cell (p := ⟨b, o + x.i * 5 + 2, none⟩) hSb).trans hat.c2
    have q3 : W.cell? ⟨b, o + x.i * 5 + 3, none⟩ = some (.string x.n.text) := (hB.cell (p := ⟨b, o + x.i * 5 + 3, none⟩) hSb).trans hat.c3
    have q4 : W.cell? ⟨b, o + x.i * 5 + 4, none⟩ = some vk := (hB.cell (p := ⟨b, o + x.i * 5 + 4, none⟩) hSb).trans hat.c4
    have hfa := fault_any (· < w.heap.size) (behind x.l x.i) x.n hps va vk W.drew ((hat.at_.keep (Kept.belowB hB fun _ h => h)).keep (fun _ _ _ => rfl)) ((hat.kids.keep (Kept.belowB hB fun _ h => h)).keep (fun _ _ _ => rfl)) (fun b hb => Nat.lt_of_lt_of_le hb hB.size)
    rw [hva, hvk] at hfa
    rw [hva] at q2
    rw [hvk] at q4
    rw [hv]
    obtain ⟨kd, hkd⟩ : ∃ kd, x.n.kind = kd := ⟨_, rfl⟩
    obtain ⟨nm, hnm⟩ : ∃ nm, x.n.name = nm := ⟨_, rfl⟩
    obtain ⟨tx, htx⟩ : ∃ tx, x.n.text = tx := ⟨_, rfl⟩
    obtain ⟨i, hi⟩ : ∃ i, x.i = i := ⟨_, rfl⟩
    obtain ⟨m, hm⟩ : ∃ m, x.l.length = m := ⟨_, rfl⟩
    have hprev : ∀ j y, i = j + 1 → x.l[j]? = some y → W.cell? ⟨b, o + j * 5, none⟩ = some (.int .i64 y.kind) ∧ behind x.l i = (y.kind == 2) := by
      rintro j y hj hy
      obtain ⟨va', vk', hat'⟩ := hcell j y hy
      refine ⟨(hB.cell (p := ⟨b, o + j * 5, none⟩) hSb).trans hat'.c0, ?_⟩
      subst hj
      show (match x.l[j]? with | some n => n.kind == 2 | none => false) = _
      rw [hy]
    rw [hi, hm] at hlt
    rw [hm] at hle
    rw [hi] at q0 q1 q2 q3 q4 hfa
    rw [hkd, hnm, htx] at hfa
    rw [hkd] at q0
    rw [hnm] at q1
    rw [htx] at q3
    rw [hi, hm]
    have hmem : ∀ j, j < m → ∃ y, x.l[j]? = some y := fun j hj => ⟨_, List.getElem?_eq_getElem (by omega)⟩
    have HFA := Lib.hid hfa
    have HPR := Lib.hid (And.intro hprev hmem)
    clear hi hm hkd hnm htx hv hcell hat hpl hps hva hvk hprev hmem hfa
    rcases Nat.eq_zero_or_pos i with h0 | h0
    · subst h0
      rw [Nat.zero_mul, Nat.add_zero] at q0 q1 q2 q3 q4
      have HB : behind x.l 0 = false := rfl
      rw [HB] at HFA
      gi_wp2
      refine wpIn_region_still_tail 15 hmx (by kernel_rfl) (by kernel_rfl) (fun ⟨_, _, h⟩ => h) ?_
      simp only [List.take_succ_cons, List.take_zero, List.drop_succ_cons, List.drop_zero]
      repeat still_step
      refine wpStill_nil ?_
      change wpList _ _ _ _ _ W.drew
      go_wp2_with fail
      refine HFA.out.mono ?_
      rintro e w2 ⟨rfl, hb2⟩
      go_wp2_with fail
      gi_wp2
      exact ⟨(KeepsOthers.drew W).trans (keeps_of_below hb2), (Below.refl w.heap.size W).drew.trans (hb2.mono hB.drew.size), ⟨(hb2.cell (p := ⟨w.heap.size, 0, none⟩) (box_lt hc)).trans hc, (frozen_below hb2 (box_lt hc)).trans hf⟩, hB.drew.trans (hb2.mono hB.drew.size)⟩
    · obtain ⟨j, hj⟩ : ∃ j, i = j + 1 := ⟨i - 1, by omega⟩
      obtain ⟨y, hy⟩ := HPR.out.2 j (by omega)
      obtain ⟨p0, hbh⟩ := HPR.out.1 j y hj hy
      rw [hbh] at HFA
      have i0 : 0 < i := h0
      have D0 : decide (0 < i) = true := decide_eq_true h0
      have i1 : (i : Int) < (m : Int) := by omega
      have i2 : (j : Int) < (m : Int) := by omega
      have i3 : (i : Int) - 1 = (j : Int) := by omega
      have i4 : IntKind.i64.wrap (j : Int) = (j : Int) := by rw [IntKind.wrap_i64]; omega
      clear hbh hy hj h0
      gi_wp2
      refine wpIn_region_still_tail 15 hmx (by kernel_rfl) (by kernel_rfl) (fun ⟨_, _, h⟩ => h) ?_
      simp only [List.take_succ_cons, List.take_zero, List.drop_succ_cons, List.drop_zero]
      repeat still_step
      refine wpStill_nil ?_
      change wpList _ _ _ _ _ W.drew
      go_wp2_with fail
      refine HFA.out.mono ?_
      rintro e w2 ⟨rfl, hb2⟩
      go_wp2_with fail
      gi_wp2
      exact ⟨(KeepsOthers.drew W).trans (keeps_of_below hb2), (Below.refl w.heap.size W).drew.trans (hb2.mono hB.drew.size), ⟨(hb2.cell (p := ⟨w.heap.size, 0, none⟩) (box_lt hc)).trans hc, (frozen_below hb2 (box_lt hc)).trans hf⟩, hB.drew.trans (hb2.mono hB.drew.size)⟩
  case done =>
    rintro D ys W hD hys ⟨⟨hc, hf⟩, hB⟩ hK
    gi_wp2
    have hK' := (KeepsOthers.setCell W ⟨w.heap.size, 0, none⟩ (.int .i64 0)).same D _ hK rfl
    refine ⟨by simp, .inl ⟨_, _, rfl, run_takeDeferred hK', ?_⟩⟩
    have hc5 := cell_kept (World.cell?_setCell_same' W ⟨w.heap.size, 0, none⟩ (.int .i64 0) (by rw [hc]; rfl)) (grownBy_putObj' _ D (.deferred none)) (fun r e => by cases e; exact ⟨_, hK', rfl⟩)
    refine ⟨.int .i64 0, ?_, rfl, (hB.setCell (p := ⟨w.heap.size, 0, none⟩) (by simp) _).trans (belowK_b (w := w) (Nat.le_refl _) _ D _ _ (by simp at hD; omega) hK' rfl rfl)⟩
    simp [results, Try.f5, go_sem, hc5]
  case stop =>
    rintro D c pre W _ _ h _
    exact h.elim

end Go.Proofs.Ythiibcjahmokpaa
