/- Parts of the proof, in build order: DMay NamW NamD MdlB MdlS TreeJ. -/
import Derived.Test.YtoidjkkjnhnbhaaK13
import Derived.Test.YtoidjkkjnhnbhaaK14
import Derived.Test.YtoidjkkjnhnbhaaK06
import Derived.Test.YtoidjkkjnhnbhaaK12
import Derived.Test.YtoidjkkjnhnbhaaK02

/- Part DMay. -/
namespace Go.Proofs.Ytoidjkkjnhnbhaa
open Go.RowKit Go.Shelf
set_option linter.unusedVariables false

attribute [local go_sem] Oper.semAt_some
attribute [local irreducible] wpStill

/-- The first error of a place; of places. -/
def pe (p : List Nd × Nat) : Int := match p.1[p.2]? with | some n => nodeE (behT p.1 p.2) n | none => 0
def mayQ : List (List Nd × Nat) → Int
  | [] => 0
  | p :: r => if pe p = 0 then mayQ r else pe p
theorem mayQ_cons (p : List Nd × Nat) (r : List (List Nd × Nat)) : mayQ (p :: r) = if pe p = 0 then mayQ r else pe p := rfl
theorem mayQ_append : ∀ (a b : List (List Nd × Nat)), mayQ (a ++ b) = if mayQ a = 0 then mayQ b else mayQ a
  | [], b => by rw [List.nil_append, show mayQ [] = 0 from rfl, if_pos rfl]
  | p :: a, b => by
    rw [List.cons_append, mayQ_cons, mayQ_cons]
    by_cases h : pe p = 0
    · rw [if_pos h, if_pos h, mayQ_append a b]
    · rw [if_neg h, if_neg h, if_neg h]
theorem mayQ_snoc (a : List (List Nd × Nat)) (p : List Nd × Nat) : mayQ (a ++ [p]) = if mayQ a = 0 then pe p else mayQ a := by
  rw [mayQ_append]
  have : mayQ [p] = pe p := by
    rw [mayQ_cons]
    by_cases h : pe p = 0
    · rw [if_pos h, h]; rfl
    · rw [if_neg h]
  rw [this]
theorem mayQ_pre {a b : List (List Nd × Nat)} (h : a <+: b) (hn : mayQ a ≠ 0) : mayQ b = mayQ a := by
  obtain ⟨t, rfl⟩ := h
  rw [mayQ_append, if_neg hn]

theorem mayQ_list (l : List Nd) : mayQ (plL l 0 l) = mayL false l := by
  induction l using nd_ind with
  | h l ih =>
  have key : ∀ (m i : Nat), m = l.length - i → mayQ (plL l i (l.drop i)) = mayL (behT l i) (l.drop i) := by
    intro m
    induction m with
    | zero =>
      intro i hm
      rw [List.drop_of_length_le (by omega), plL_nil, mayL_nil]
      rfl
    | succ m ihm =>
      intro i hm
      have hi : i < l.length := by omega
      rw [List.drop_eq_getElem_cons hi, plL_cons, mayL_cons, mayN_eq]
      have hx : l[i]? = some l[i] := List.getElem?_eq_getElem hi
      have hpe : pe (l, i) = nodeE (behT l i) l[i] := by unfold pe; rw [hx]
      have hbh : behT l (i + 1) = (l[i].kind == 2) := by
        show (match l[i]? with | some n => n.kind == 2 | none => false) = _
        rw [hx]
      have hk := ih i l[i] hx
      have hr := ihm (i + 1) (by omega)
      rw [hbh] at hr
      rw [mayQ_cons, hpe, mayQ_append, hk, hr]
      by_cases h1 : nodeE (behT l i) l[i] = 0
      · rw [if_pos h1, if_pos h1]
      · rw [if_neg h1, if_neg h1, if_neg h1]
  have := key l.length 0 (by omega)
  rwa [List.drop_zero] at this

set_option maxRecDepth 100000 in
set_option maxHeartbeats 2000000 in
theorem mayD_any (S : Nat → Prop) (l : List Nd) (v : Value) (w : World) (hT0 : Tree S w l v) (hS : ∀ b, S b → b < w.heap.size) (hsz : szL l ≤ 100000) :
    Calls Try.prog 24 #[v] w fun e W' => e = .returned (.int .i64 (mayL false l)) ∧ Below w.heap.size w W' := by
  have hT : Tree (· < w.heap.size) w l v := hT0.mono hS
  have hP : AllP PW l := allP_sz l hsz
  have HMQ := Lib.hid (mayQ_list l)
  obtain ⟨A, c, rfl, hc⟩ := hT.shape
  refine (callsIn_wide (n := 4)).1 ?_
  refine callsIn_of_wp_marks Try.func24 rfl trivial ?_ rfl
  simp only [Try.ntmps24, List.size_toArray, List.length_cons, List.length_nil, Nat.reduceAdd, Nat.reduceSub, Array.replicate_succ, Array.replicate_zero, List.push_toArray, List.append_toArray, List.nil_append, List.cons_append]
  gi_wp2_with (refine ⟨trivial, ?_⟩; gi_at_call 41; refine (all_in Fence.wide _ trivial rfl _ ⟨_, _, _, rfl⟩ _).mono ?_; rintro e w' ⟨rfl, rfl⟩)
  have hs := box_new w (.int .i64 0) 43
  have hb := box_new (w.alloc (.cells #[.int .i64 0] 43)) (.slice A l.length c) 27
  rw [World.size_alloc] at hb
  have hB0 : Below w.heap.size w ((w.alloc (.cells #[.int .i64 0] 43)).alloc (.cells #[.slice A l.length c] 27)) := ((Below.refl _ w).alloc (Nat.le_refl _) _).alloc (by simp) _
  refine wpIn_rangeFunc_ownF rfl (by decide) (gf := 57) (lb := #[.pointer (some ⟨w.heap.size + 1, 0, none⟩)]) rfl trivial (enters_of Try.func57 (by kernel_rfl) rfl)
    (allP_stops Fence.wide rfl _ trivial trivial rfl (w.heap.size + 1) w.heap.size w (· < w.heap.size) (fun _ h => h) PW l (.slice A l.length c) hP hsz hT _ hB0 (by simp; omega) (by simp) hb.1) belowK_t (belowK_b (by simp; omega)) (Below.refl _ _) (fun _ => rfl)
    (fun pre W => (W.cell? ⟨w.heap.size, 0, none⟩ = some (.int .i64 0) ∧ W.frozen? ⟨w.heap.size, 0, none⟩ = false ∧ mayQ (pre.map Pos.key) = 0) ∧ Below w.heap.size w W)
    (fun c pre W => (c = .ret ∧ mayQ (pre.map Pos.key) ≠ 0 ∧ W.cell? ⟨w.heap.size, 0, none⟩ = some (.int .i64 (mayQ (pre.map Pos.key)))) ∧ Below w.heap.size w W)
    (OwnFrom.and (Own.from (fun s A B row hs hg hr => ⟨cell_kept hs.1 hg hr, (frozen_kept hs.1 hg hr).trans hs.2.1, hs.2.2⟩) _) (ownFrom_below (Nat.le_refl _) (by simp; omega)))
    (fun c => OwnFrom.and (Own.from (fun s A B row hs hg hr => ⟨hs.1, hs.2.1, cell_kept hs.2.2 hg hr⟩) _) (ownFrom_below (Nat.le_refl _) (by simp; omega)))
    ⟨⟨box_past _ hs.1, box_past_f _ hs.1 hs.2, rfl⟩, hB0⟩
    (fun x => { tmps := #[.slice A l.length c, undef, .pointer (some ⟨w.heap.size, 0, none⟩), x.v, .int .i64 (x.i : Int), undef, .slice A l.length c, .func (.func 57) #[] #[.pointer (some ⟨w.heap.size + 1, 0, none⟩)], x.v, .int .i64 (x.i : Int), undef, undef, undef, undef, undef, undef, undef, undef, undef, undef, undef, undef, undef, undef, undef, undef, undef, undef, undef], defers := [] }) ?assign ?body ?done ?stop
  case assign =>
    intro lp x W K hK
    obtain ⟨A', c', hv, _⟩ := x.tree.shape
    simp only [Pos.encs, hv] at hK ⊢
    gi_wp2
    exact hK
  case body =>
    rintro lp pre x W ⟨⟨hc, hf, hq0⟩, hB⟩ hpl
    have hmx : Try.prog.follows .mixedOrders = true := by kernel_rfl
    have hlt := (List.getElem?_eq_some_iff.1 x.at_).1
    obtain ⟨b, o, c', hv, _, hSb, hcell⟩ := x.tree.open_ (by omega)
    obtain ⟨va, vk, hat⟩ := hcell x.i x.n x.at_
    have hsx : szL x.l ≤ 100000 := x.ok
    have hzn := szL_at x.at_
    have hle := szL_len x.l
    have HQ := Lib.hid (show mayQ ((pre ++ [x]).map Pos.key) = nodeE (behT x.l x.i) x.n by
      rw [List.map_append, List.map_cons, List.map_nil, mayQ_snoc, if_pos hq0]
      show pe (x.l, x.i) = _
      unfold pe
      rw [x.at_])
    obtain ⟨A1, c1, hva, _⟩ := id hat.at_
    obtain ⟨A2, c2, hvk, _⟩ := hat.kids.shape
    have q0 : W.cell? ⟨b, o + x.i * 5, none⟩ = some (.int .i64 x.n.kind) := (hB.cell (p := ⟨b, o + x.i * 5, none⟩) hSb).trans hat.c0
    have q1 : W.cell? ⟨b, o + x.i * 5 + 1, none⟩ = some (.string x.n.name) := (hB.cell (p := ⟨b, o + x.i * 5 + 1, none⟩) hSb).trans hat.c1
    have q2 : W.cell? ⟨b, o + x.i * 5 + 2, none⟩ = some va := (hB.cell (p := ⟨b, o + x.i * 5 + 2, none⟩) hSb).trans hat.c2
    have q3 : W.cell? ⟨b, o + x.i * 5 + 3, none⟩ = some (.string x.n.text) := (hB.cell (p := ⟨b, o + x.i * 5 + 3, none⟩) hSb).trans hat.c3
    have q4 : W.cell? ⟨b, o + x.i * 5 + 4, none⟩ = some vk := (hB.cell (p := ⟨b, o + x.i * 5 + 4, none⟩) hSb).trans hat.c4
    have hfa := faultD_any (· < w.heap.size) (behT x.l x.i) x.n va vk W.drew ((hat.at_.keep (Kept.belowB hB fun _ h => h)).keep (fun _ _ _ => rfl)) ((hat.kids.keep (Kept.belowB hB fun _ h => h)).keep (fun _ _ _ => rfl)) (fun b hb => Nat.lt_of_lt_of_le hb hB.size) (by omega)
    rw [hva, hvk] at hfa
    rw [hva] at q2
    rw [hvk] at q4
    rw [hv]
    obtain ⟨kd, hkd⟩ : ∃ kd, x.n.kind = kd := ⟨_, rfl⟩
    obtain ⟨nm, hnm⟩ : ∃ nm, x.n.name = nm := ⟨_, rfl⟩
    obtain ⟨tx, htx⟩ : ∃ tx, x.n.text = tx := ⟨_, rfl⟩
    obtain ⟨i, hi⟩ : ∃ i, x.i = i := ⟨_, rfl⟩
    obtain ⟨m, hm⟩ : ∃ m, x.l.length = m := ⟨_, rfl⟩
    have hprev : ∀ j y, i = j + 1 → x.l[j]? = some y → W.cell? ⟨b, o + j * 5, none⟩ = some (.int .i64 y.kind) ∧ behT x.l i = (y.kind == 2) := by
      rintro j y hj hy
      obtain ⟨va', vk', hat'⟩ := hcell j y hy
      refine ⟨(hB.cell (p := ⟨b, o + j * 5, none⟩) hSb).trans hat'.c0, ?_⟩
      subst hj
      show (match x.l[j]? with | some n => n.kind == 2 | none => false) = _
      rw [hy]
    obtain ⟨er, her⟩ : ∃ er, nodeE (behT x.l x.i) x.n = er := ⟨_, rfl⟩
    rw [her] at hfa HQ
    rw [hi, hm] at hlt
    rw [hm] at hle
    rw [hi] at q0 q1 q2 q3 q4 hfa
    rw [hkd, hnm, htx] at hfa
    rw [hkd] at q0
    rw [hnm] at q1
    rw [htx] at q3
    rw [hi, hm]
    have hmem : ∀ j, j < m → ∃ y, x.l[j]? = some y := fun j hj => ⟨_, List.getElem?_eq_getElem (by omega)⟩
    have HFA := Lib.hid hfa
    have HPR := Lib.hid (And.intro hprev hmem)
    have HC := Lib.hid (And.intro hc hf)
    clear hi hm hkd hnm htx hv hcell hat hpl hva hvk hprev hmem hfa her hq0 hzn hc hf
    have fin0 : ∀ w2, Below W.drew.heap.size W.drew w2 → er = 0 → KeepsOthers W w2 ∧ Below w.heap.size W w2 ∧ (w2.cell? ⟨w.heap.size, 0, none⟩ = some (.int .i64 0) ∧ w2.frozen? ⟨w.heap.size, 0, none⟩ = false ∧ mayQ ((pre ++ [x]).map Pos.key) = 0) ∧ Below w.heap.size w w2 := fun w2 hb2 he =>
      ⟨(KeepsOthers.drew W).trans (keeps_of_below hb2), (Below.refl w.heap.size W).drew.trans (hb2.mono hB.drew.size), ⟨(hb2.cell (p := ⟨w.heap.size, 0, none⟩) (box_lt HC.out.1)).trans HC.out.1, (frozen_below hb2 (box_lt HC.out.1)).trans HC.out.2, HQ.out.trans he⟩, hB.drew.trans (hb2.mono hB.drew.size)⟩
    have fin1 : ∀ w2, Below W.drew.heap.size W.drew w2 → w2.cell? ⟨w.heap.size, 0, none⟩ = some (.int .i64 0) ∧ w2.frozen? ⟨w.heap.size, 0, none⟩ = false := fun w2 hb2 =>
      ⟨(hb2.cell (p := ⟨w.heap.size, 0, none⟩) (box_lt HC.out.1)).trans HC.out.1, (frozen_below hb2 (box_lt HC.out.1)).trans HC.out.2⟩
    have fin2 : ∀ w2, Below W.drew.heap.size W.drew w2 → er ≠ 0 → KeepsOthers W (w2.setCell ⟨w.heap.size, 0, none⟩ (.int .i64 er)) ∧ (mayQ ((pre ++ [x]).map Pos.key) ≠ 0 ∧ (w2.setCell ⟨w.heap.size, 0, none⟩ (.int .i64 er)).cell? ⟨w.heap.size, 0, none⟩ = some (.int .i64 (mayQ ((pre ++ [x]).map Pos.key)))) ∧ Below w.heap.size w (w2.setCell ⟨w.heap.size, 0, none⟩ (.int .i64 er)) := fun w2 hb2 he =>
      ⟨((KeepsOthers.drew W).trans (keeps_of_below hb2)).trans (KeepsOthers.setCell _ _ _), ⟨fun h => he (HQ.out.symm.trans h), by rw [HQ.out]; exact World.cell?_setCell_same' _ _ _ (by rw [(fin1 w2 hb2).1]; rfl)⟩, (hB.drew.trans (hb2.mono hB.drew.size)).setCell (p := ⟨w.heap.size, 0, none⟩) (Nat.le_refl _) _⟩
    have F0 := Lib.hid fin0
    have F1 := Lib.hid fin1
    have F2 := Lib.hid fin2
    clear fin0 fin1 fin2
    rcases Nat.eq_zero_or_pos i with h0 | h0
    · subst h0
      rw [Nat.zero_mul, Nat.add_zero] at q0 q1 q2 q3 q4
      have HB : behT x.l 0 = false := rfl
      rw [HB] at HFA
      gi_wp2
      refine wpIn_region_still_tail 15 hmx (by kernel_rfl) (by kernel_rfl) (fun ⟨_, _, h⟩ => h) ?_
      simp only [List.take_succ_cons, List.take_zero, List.drop_succ_cons, List.drop_zero]
      repeat still_step
      refine wpStill_nil ?_
      change wpList _ _ _ _ _ W.drew
      go_wp2_with fail
      refine HFA.out.mono ?_
      rintro e w2 ⟨rfl, hb2⟩
      obtain ⟨k1, k2⟩ := F1.out w2 hb2
      go_wp2_with fail
      by_cases he : er = 0
      · have B0 : (er != 0) = false := by rw [he]; rfl
        gi_wp2
        exact F0.out w2 hb2 he
      · have B0 : (er != 0) = true := by simp [he]
        gi_wp2
        exact ⟨(F2.out w2 hb2 he).1, ⟨rfl, (F2.out w2 hb2 he).2.1⟩, (F2.out w2 hb2 he).2.2⟩
    · obtain ⟨j, hj⟩ : ∃ j, i = j + 1 := ⟨i - 1, by omega⟩
      obtain ⟨y, hy⟩ := HPR.out.2 j (by omega)
      obtain ⟨p0, hbh⟩ := HPR.out.1 j y hj hy
      rw [hbh] at HFA
      have i0 : 0 < i := h0
      have D0 : decide (0 < i) = true := decide_eq_true h0
      have i1 : (i : Int) < (m : Int) := by omega
      have i2 : (j : Int) < (m : Int) := by omega
      have i3 : (i : Int) - 1 = (j : Int) := by omega
      have i4 : IntKind.i64.wrap (j : Int) = (j : Int) := by rw [IntKind.wrap_i64]; omega
      clear hbh hy hj h0
      gi_wp2
      refine wpIn_region_still_tail 15 hmx (by kernel_rfl) (by kernel_rfl) (fun ⟨_, _, h⟩ => h) ?_
      simp only [List.take_succ_cons, List.take_zero, List.drop_succ_cons, List.drop_zero]
      repeat still_step
      refine wpStill_nil ?_
      change wpList _ _ _ _ _ W.drew
      go_wp2_with fail
      refine HFA.out.mono ?_
      rintro e w2 ⟨rfl, hb2⟩
      obtain ⟨k1, k2⟩ := F1.out w2 hb2
      go_wp2_with fail
      by_cases he : er = 0
      · have B0 : (er != 0) = false := by rw [he]; rfl
        gi_wp2
        exact F0.out w2 hb2 he
      · have B0 : (er != 0) = true := by simp [he]
        gi_wp2
        exact ⟨(F2.out w2 hb2 he).1, ⟨rfl, (F2.out w2 hb2 he).2.1⟩, (F2.out w2 hb2 he).2.2⟩
  case done =>
    rintro D ys W hD hys ⟨⟨hc, hf, hq⟩, hB⟩ hK
    have hz : mayL false l = 0 := by rw [← HMQ.out, ← hys]; exact hq
    have HZ := Lib.hid hz
    clear hys hq hz
    gi_wp2
    have hK' := (KeepsOthers.setCell W ⟨w.heap.size, 0, none⟩ (.int .i64 0)).same D _ hK rfl
    refine ⟨by simp, .inl ⟨_, _, rfl, run_takeDeferred hK', ?_⟩⟩
    have hc5 := cell_kept (World.cell?_setCell_same' W ⟨w.heap.size, 0, none⟩ (.int .i64 0) (by rw [hc]; rfl)) (grownBy_putObj' _ D (.deferred none)) (fun r e => by cases e; exact ⟨_, hK', rfl⟩)
    refine ⟨.int .i64 0, ?_, by rw [HZ.out], (hB.setCell (p := ⟨w.heap.size, 0, none⟩) (by simp) _).trans (belowK_b (w := w) (Nat.le_refl _) _ D _ _ (by simp at hD; omega) hK' rfl rfl)⟩
    simp [results, Try.f24, go_sem, hc5]
  case stop =>
    rintro D c pre W hD hpre ⟨⟨rfl, hne, hc⟩, hB⟩ hK
    have hz : mayL false l = mayQ (pre.map Pos.key) := by rw [← HMQ.out]; exact mayQ_pre hpre hne
    have HZ := Lib.hid hz
    clear hpre hne hz
    gi_wp2
    refine ⟨by simp, .inl ⟨_, _, rfl, run_takeDeferred hK, ?_⟩⟩
    have hc5 := cell_kept hc (grownBy_putObj' _ D (.deferred none)) (fun r e => by cases e; exact ⟨_, hK, rfl⟩)
    refine ⟨.int .i64 (mayQ (pre.map Pos.key)), ?_, by rw [HZ.out], hB.trans (belowK_b (w := w) (Nat.le_refl _) _ D _ _ (by simp at hD; omega) hK rfl rfl)⟩
    simp [results, Try.f24, go_sem, hc5]

end Go.Proofs.Ytoidjkkjnhnbhaa

/- Part NamW. -/
namespace Go.Proofs.Ytoidjkkjnhnbhaa
open Go.RowKit
set_option linter.unusedVariables false

set_option maxHeartbeats 400000 in
theorem raw_any (s : ByteArray) (w : World) :
    Calls Try.prog 47 #[.string s] w fun e w' => e = .returned (.bool (rawB s.data.toList)) ∧ w = w' := by
  have h1 := eqs s [115, 99, 114, 105, 112, 116]
  have h2 := eqs s [115, 116, 121, 108, 101]
  obtain ⟨q1, e1⟩ : ∃ q, decide (s.data.toList = [115, 99, 114, 105, 112, 116]) = q := ⟨_, rfl⟩
  obtain ⟨q2, e2⟩ : ∃ q, decide (s.data.toList = [115, 116, 121, 108, 101]) = q := ⟨_, rfl⟩
  have HF := Lib.hid (show rawB s.data.toList = (q1 || q2) by unfold rawB; rw [e1, e2])
  rw [e1] at h1
  rw [e2] at h2
  clear e1 e2
  cases q1 <;> cases q2
  all_goals
    go_enter Try.func47, Try.ntmps47
    go_wp2
    go_ret
    exact ⟨by rw [HF.out]; rfl, rfl⟩

end Go.Proofs.Ytoidjkkjnhnbhaa

/- Part NamD. -/
namespace Go.Proofs.Ytoidjkkjnhnbhaa
open Go.RowKit
set_option linter.unusedVariables false

set_option maxHeartbeats 1000000 in
theorem void_any (s : ByteArray) (w : World) :
    Calls Try.prog 46 #[.string s] w fun e w' => e = .returned (.bool (voidB s.data.toList)) ∧ w = w' := by
  have h1 := eqs s [98, 114]
  have h2 := eqs s [104, 114]
  have h3 := eqs s [105, 109, 103]
  have h4 := eqs s [105, 110, 112, 117, 116]
  have h5 := eqs s [119, 98, 114]
  obtain ⟨q1, e1⟩ : ∃ q, decide (s.data.toList = [98, 114]) = q := ⟨_, rfl⟩
  obtain ⟨q2, e2⟩ : ∃ q, decide (s.data.toList = [104, 114]) = q := ⟨_, rfl⟩
  obtain ⟨q3, e3⟩ : ∃ q, decide (s.data.toList = [105, 109, 103]) = q := ⟨_, rfl⟩
  obtain ⟨q4, e4⟩ : ∃ q, decide (s.data.toList = [105, 110, 112, 117, 116]) = q := ⟨_, rfl⟩
  obtain ⟨q5, e5⟩ : ∃ q, decide (s.data.toList = [119, 98, 114]) = q := ⟨_, rfl⟩
  have HF := Lib.hid (show voidB s.data.toList = (q1 || q2 || q3 || q4 || q5) by unfold voidB; rw [e1, e2, e3, e4, e5])
  rw [e1] at h1
  rw [e2] at h2
  rw [e3] at h3
  rw [e4] at h4
  rw [e5] at h5
  clear e1 e2 e3 e4 e5
  cases q1
  case' false => cases q2
  case' false.false => cases q3
  case' false.false.false => cases q4
  case' false.false.false.false => cases q5
  all_goals
    go_enter Try.func46, Try.ntmps46
    go_wp2
    go_ret
    exact ⟨by rw [HF.out]; first | rfl | (simp only [Bool.true_or, Bool.false_or]; rfl), rfl⟩

end Go.Proofs.Ytoidjkkjnhnbhaa

/- Part MdlB. -/
namespace Go.Proofs.Ytoidjkkjnhnbhaa
open Go.RowKit Go.Maps
set_option linter.unusedVariables false

theorem index_cons (b : UInt8) (l sep : List UInt8) : Lib.index (b :: l) sep = if sep.isPrefixOf (b :: l) = true then 0 else if Lib.index l sep == -1 then -1 else Lib.index l sep + 1 := rfl
theorem has_index (w : List UInt8) (hw : w ≠ []) : ∀ l : List UInt8, decide (0 ≤ Lib.index l w) = hasB w l
  | [] => by
    unfold hasB Lib.index
    cases w with
    | nil => exact absurd rfl hw
    | cons a r => simp
  | c :: r => by
    have ih := has_index w hw r
    have hge := Lib.index_ge r w
    rw [index_cons]
    unfold hasB
    rw [← ih]
    by_cases hp : w.isPrefixOf (c :: r) = true
    · have hp' : Lib.hasPrefix (c :: r) w = true := hp
      rw [if_pos hp, hp']
      rfl
    · have hp' : Lib.hasPrefix (c :: r) w = false := Bool.eq_false_iff.2 hp
      rw [if_neg hp, hp', Bool.false_or]
      by_cases hi : Lib.index r w = -1
      · rw [hi]; rfl
      · have : (Lib.index r w == -1) = false := by rw [beq_eq_false_iff_ne]; exact hi
        rw [this, if_neg (by decide), decide_eq_decide]
        omega
theorem contains_noEnd (l : List UInt8) : Lib.contains l [45, 45, 62] = !noEnd l := by
  rw [← has_noEnd]
  exact has_index _ (by simp) l

set_option maxHeartbeats 2000000 in
set_option maxRecDepth 100000 in
theorem fitsD_any (B : Nat) (p : ByteArray) (n : Nd) (va vk : Value) (w : World) (hM : Made w B) (hva : ∃ A c, va = .slice A n.attrs.length c) (hvk : ∃ A c, vk = .slice A n.kids.length c) (hp : p.size ≤ 100000) (ht : n.text.size ≤ 100000) :
    Calls Try.prog 28 #[.map (some B), .string p, .agg #[.int .i64 n.kind, .string n.name, va, .string n.text, vk]] w fun e w' => e = .returned (.bool (fitsB p.data.toList n)) ∧ Below w.heap.size w w' := by
  obtain ⟨A1, c1, rfl⟩ := hva
  obtain ⟨A2, c2, rfl⟩ := hvk
  have hbx := box_here w #[.int .i64 n.kind, .string n.name, .slice A1 n.attrs.length c1, .string n.text, .slice A2 n.kids.length c2] 32
  have hnb := below_new w (.cells #[.int .i64 n.kind, .string n.name, .slice A1 n.attrs.length c1, .string n.text, .slice A2 n.kids.length c2] 32)
  have hcl := closesD_any B p n.name _ (hM.below hnb) (by unfold maxLen; omega)
  have HV := Lib.hid (fun W => void_any p W)
  have HRW := Lib.hid (fun W => raw_any p W)
  have hfit : fitsB p.data.toList n = (if voidB p.data.toList = true then false else if rawB p.data.toList = true then decide (n.kind = 2) && rawOK p.data.toList n.text.data.toList else !decide (n.kind = 1) || !closesB p.data.toList n.name.data.toList) := rfl
  have HWH := Lib.hid (fun W h => whole_any p n.text W h hp ht)
  obtain ⟨R, hR⟩ : ∃ R, rawOK p.data.toList n.text.data.toList = R := ⟨_, rfl⟩
  obtain ⟨C, hC⟩ : ∃ C, closesB p.data.toList n.name.data.toList = C := ⟨_, rfl⟩
  obtain ⟨v, hv⟩ : ∃ v, voidB p.data.toList = v := ⟨_, rfl⟩
  obtain ⟨r, hr⟩ : ∃ r, rawB p.data.toList = r := ⟨_, rfl⟩
  rw [hv, hR, hC, hr] at hfit
  rw [hv] at HV
  rw [hr] at HRW HWH
  rw [hR] at HWH
  rw [hC] at hcl
  have HFIT := Lib.hid hfit
  have HCL := Lib.hid hcl
  have HNB := Lib.hid hnb
  have c0 := cell_at hbx 0
  have c1' := cell_at hbx 1
  have c3 := cell_at hbx 3
  clear hbx hnb hfit hv hr hcl hR hC hM
  cases v with
  | true =>
    have HK := Lib.hid (show fitsB p.data.toList n = false by rw [HFIT.out]; rfl)
    go_enter Try.func28, Try.ntmps28
    go_wp2_with fail
    refine (HV.out _).mono ?_
    rintro e w1 ⟨rfl, rfl⟩
    go_wp2_with fail
    go_ret
    exact ⟨by rw [HK.out]; rfl, HNB.out⟩
  | false =>
    cases r with
    | true =>
      by_cases h2 : n.kind = 2
      · have B2 : (n.kind == 2) = true := by simp [h2]
        have HK := Lib.hid (show fitsB p.data.toList n = R by rw [HFIT.out, if_neg (by decide), if_pos rfl, h2]; simp)
        clear h2
        go_enter Try.func28, Try.ntmps28
        go_wp2_with fail
        refine (HV.out _).mono ?_
        rintro e w1 ⟨rfl, rfl⟩
        go_wp2_with fail
        refine (HRW.out _).mono ?_
        rintro e w1 ⟨rfl, rfl⟩
        go_wp2_with fail
        refine (HWH.out _ trivial).mono ?_
        rintro e w1 ⟨rfl, hb1⟩
        go_wp2_with fail
        go_ret
        exact ⟨by rw [HK.out]; rfl, below_after HNB.out hb1⟩
      · have B2 : (n.kind == 2) = false := by simp [h2]
        have HK := Lib.hid (show fitsB p.data.toList n = false by rw [HFIT.out, if_neg (by decide), if_pos rfl, decide_eq_false h2]; rfl)
        clear h2
        go_enter Try.func28, Try.ntmps28
        go_wp2_with fail
        refine (HV.out _).mono ?_
        rintro e w1 ⟨rfl, rfl⟩
        go_wp2_with fail
        refine (HRW.out _).mono ?_
        rintro e w1 ⟨rfl, rfl⟩
        go_wp2_with fail
        go_ret
        exact ⟨by rw [HK.out]; rfl, HNB.out⟩
    | false =>
      by_cases h1 : n.kind = 1
      · have B1 : (n.kind != 1) = false := by simp [h1]
        have HK := Lib.hid (show fitsB p.data.toList n = !C by rw [HFIT.out, if_neg (by decide), if_neg (by decide), h1]; simp)
        clear h1
        go_enter Try.func28, Try.ntmps28
        go_wp2_with fail
        refine (HV.out _).mono ?_
        rintro e w1 ⟨rfl, rfl⟩
        go_wp2_with fail
        refine (HRW.out _).mono ?_
        rintro e w1 ⟨rfl, rfl⟩
        go_wp2_with fail
        refine HCL.out.mono ?_
        rintro e w1 ⟨rfl, hb1⟩
        go_wp2_with fail
        go_ret
        exact ⟨by rw [HK.out]; rfl, below_after HNB.out hb1⟩
      · have B1 : (n.kind != 1) = true := by simp [h1]
        have HK := Lib.hid (show fitsB p.data.toList n = true by rw [HFIT.out, if_neg (by decide), if_neg (by decide), decide_eq_false h1]; rfl)
        clear h1
        go_enter Try.func28, Try.ntmps28
        go_wp2_with fail
        refine (HV.out _).mono ?_
        rintro e w1 ⟨rfl, rfl⟩
        go_wp2_with fail
        refine (HRW.out _).mono ?_
        rintro e w1 ⟨rfl, rfl⟩
        go_wp2_with fail
        go_ret
        exact ⟨by rw [HK.out]; rfl, HNB.out⟩

set_option maxHeartbeats 1000000 in
theorem FitsD : FitsSaid := by
  intro p n va vk w hva hvk hp ht
  obtain ⟨A1, c1, rfl⟩ := hva
  obtain ⟨A2, c2, rfl⟩ := hvk
  obtain ⟨q, hq⟩ : ∃ q, fitsB p.data.toList n = q := ⟨_, rfl⟩
  have H := Lib.hid (fun (B : Nat) (W : World) (hM : Made W B) => fitsD_any B p n (.slice A1 n.attrs.length c1) (.slice A2 n.kids.length c2) W hM ⟨_, _, rfl⟩ ⟨_, _, rfl⟩ hp ht)
  rw [hq] at H ⊢
  clear hq
  have hbx := box_here w #[.int .i64 n.kind, .string n.name, .slice A1 n.attrs.length c1, .string n.text, .slice A2 n.kids.length c2] 32
  have hnb := below_new w (.cells #[.int .i64 n.kind, .string n.name, .slice A1 n.attrs.length c1, .string n.text, .slice A2 n.kids.length c2] 32)
  have HBX := Lib.hid (And.intro hbx hnb)
  clear hbx hnb
  have SK := Lib.hid (fun (W : World) (h : Below (w.alloc (.cells #[.int .i64 n.kind, .string n.name, .slice A1 n.attrs.length c1, .string n.text, .slice A2 n.kids.length c2] 32)).heap.size (w.alloc (.cells #[.int .i64 n.kind, .string n.name, .slice A1 n.attrs.length c1, .string n.text, .slice A2 n.kids.length c2] 32)) W) =>
    (⟨cell_at (box_below5 HBX.out.1 h) 0, cell_at (box_below5 HBX.out.1 h) 1, cell_at (box_below5 HBX.out.1 h) 2, cell_at (box_below5 HBX.out.1 h) 3, cell_at (box_below5 HBX.out.1 h) 4⟩ :
      W.cell? ⟨w.heap.size, 0, none⟩ = some (.int .i64 n.kind) ∧ W.cell? ⟨w.heap.size, 1, none⟩ = some (.string n.name) ∧ W.cell? ⟨w.heap.size, 2, none⟩ = some (.slice A1 n.attrs.length c1) ∧ W.cell? ⟨w.heap.size, 3, none⟩ = some (.string n.text) ∧ W.cell? ⟨w.heap.size, 4, none⟩ = some (.slice A2 n.kids.length c2)))
  go_enter Try.func16, Try.ntmps16
  go_wp2_with fail
  go_region_held3 (fun W => W.cell? ⟨w.heap.size, 0, none⟩ = some (.int .i64 n.kind) ∧ W.cell? ⟨w.heap.size, 1, none⟩ = some (.string n.name) ∧ W.cell? ⟨w.heap.size, 2, none⟩ = some (.slice A1 n.attrs.length c1) ∧ W.cell? ⟨w.heap.size, 3, none⟩ = some (.string n.text) ∧ W.cell? ⟨w.heap.size, 4, none⟩ = some (.slice A2 n.kids.length c2))
    (first
      | exact SK.out _ (Below.refl _ _)
      | exact SK.out _ (Below.refl _ _).drew
      | exact SK.out _ (below_after (Below.refl _ _).drew hb3)
      | exact SK.out _ hb3
      | exact SK.out _ (below_after (below_after (Below.refl _ _).drew hb3) hb4)
      | exact SK.out _ (below_after hb3 hb4))
    (first
      | (go_at_call 19; refine Calls.mono (made_any _) ?_; rintro e w3 ⟨B, rfl, hMd, hb3⟩)
      | (go_at_call 28; refine Calls.mono (H.out _ _ hMd) ?_; rintro e w4 ⟨rfl, hb4⟩))
  go_wp2_with fail
  go_ret
  exact ⟨rfl, by first | exact below_after (below_after HBX.out.2.drew hb3) hb4 | exact below_after (below_after HBX.out.2 hb3) hb4⟩

theorem ClosesAll : ClosesSaid := fun o b w ho => ClosesD o b w ho

/-- A node may be left where it stands, its kids aside. -/
def staysB (p : List UInt8) (n : Nd) : Bool := fitsB p n && (!decide (n.kind = 3) || noEnd n.text.data.toList)

set_option maxHeartbeats 2000000 in
set_option maxRecDepth 100000 in
theorem staysD_any (B : Nat) (p : ByteArray) (n : Nd) (va vk : Value) (w : World) (hM : Made w B) (hva : ∃ A c, va = .slice A n.attrs.length c) (hvk : ∃ A c, vk = .slice A n.kids.length c) (hp : p.size ≤ 100000) (ht : n.text.size ≤ 100000) (hG : Glob w) :
    Calls Try.prog 43 #[.map (some B), .string p, .agg #[.int .i64 n.kind, .string n.name, va, .string n.text, vk]] w fun e w' => e = .returned (.bool (staysB p.data.toList n)) ∧ Below w.heap.size w w' := by
  obtain ⟨A1, c1, rfl⟩ := hva
  obtain ⟨A2, c2, rfl⟩ := hvk
  have hbx := box_here w #[.int .i64 n.kind, .string n.name, .slice A1 n.attrs.length c1, .string n.text, .slice A2 n.kids.length c2] 32
  have hnb := below_new w (.cells #[.int .i64 n.kind, .string n.name, .slice A1 n.attrs.length c1, .string n.text, .slice A2 n.kids.length c2] 32)
  have hfi := fitsD_any B p n (.slice A1 n.attrs.length c1) (.slice A2 n.kids.length c2) _ (hM.below hnb) ⟨_, _, rfl⟩ ⟨_, _, rfl⟩ hp ht
  have HCT := Lib.hid (fun (W : World) (h : Below w.heap.size w W) => by
    obtain ⟨m, hm⟩ := hG.below h
    exact Try.strings_Contains n.text ⟨#[45, 45, 62]⟩ m W (by omega) hm)
  have hct : Lib.contains n.text.data.toList (⟨#[45, 45, 62]⟩ : ByteArray).data.toList = !noEnd n.text.data.toList := contains_noEnd _
  rw [hct] at HCT
  have hst : staysB p.data.toList n = (fitsB p.data.toList n && (!decide (n.kind = 3) || noEnd n.text.data.toList)) := rfl
  obtain ⟨qf, hqf⟩ : ∃ q, fitsB p.data.toList n = q := ⟨_, rfl⟩
  obtain ⟨qe, hqe⟩ : ∃ q, noEnd n.text.data.toList = q := ⟨_, rfl⟩
  rw [hqf, hqe] at hst
  rw [hqf] at hfi
  rw [hqe] at HCT
  have HFI := Lib.hid hfi
  have HST := Lib.hid hst
  have HBX := Lib.hid (And.intro hbx hnb)
  have c0 := cell_at hbx 0
  have c1' := cell_at hbx 1
  have c2' := cell_at hbx 2
  have c3' := cell_at hbx 3
  have c4' := cell_at hbx 4
  clear hbx hnb hfi hct hst hqf hqe hM
  go_enter Try.func43, Try.ntmps43
  go_wp2_with fail
  refine HFI.out.mono ?_
  rintro e w1 ⟨rfl, hb1⟩
  have hbx := box_below5 HBX.out.1 hb1
  have d0 := cell_at hbx 0
  have d3 := cell_at hbx 3
  have hB := below_after HBX.out.2 hb1
  clear hbx hb1 c0 c1' c2' c3' c4'
  cases qf with
  | false =>
    go_wp2_with fail
    go_ret
    exact ⟨by rw [HST.out]; rfl, hB⟩
  | true =>
    by_cases h3 : n.kind = 3
    · have B3 : (n.kind != 3) = false := by simp [h3]
      have HK := Lib.hid (show staysB p.data.toList n = qe by rw [HST.out, h3]; simp)
      have HC1 := Lib.hid (HCT.out w1 hB)
      clear h3
      cases qe
      all_goals
        go_wp2_with fail
        refine HC1.out.mono ?_
        rintro e w2 ⟨rfl, rfl⟩
        go_wp2_with fail
        go_ret
        exact ⟨by rw [HK.out]; rfl, hB⟩
    · have B3 : (n.kind != 3) = true := by simp [h3]
      have HK := Lib.hid (show staysB p.data.toList n = true by rw [HST.out, decide_eq_false h3]; rfl)
      clear h3
      go_wp2_with fail
      go_ret
      exact ⟨by rw [HK.out]; rfl, hB⟩

structure KpAt (w wr : World) (p : List UInt8) (l : List Nd) (i : Nat) : Prop where
  le : i ≤ l.length
  ok : stL (l.take i) = true
  fit : (l.take i).all (fitsB p) = true
  bel : Below w.heap.size w wr
def KpRel (w : World) (p : List UInt8) (l : List Nd) (x : Value) (wr : World) : Prop := ∃ i : Nat, x = .int .i64 i ∧ KpAt w wr p l i

set_option maxHeartbeats 4000000 in
set_option maxRecDepth 100000 in
theorem keepD_any (l : List Nd) : ∀ (B : Nat) (p : ByteArray) (S : Nat → Prop) (v : Value) (w : World), Made w B → Glob w → p.size ≤ 100000 → Tree S w l v → (∀ b, S b → b < w.heap.size) → szL l ≤ 100000 →
    Calls Try.prog 25 #[.map (some B), .string p, v] w fun e w' => e = .returned (.bool (l.all (fitsB p.data.toList) && stL l)) ∧ Below w.heap.size w w' := by
  induction l using nd_ind with
  | h l ih =>
  intro B p S v w hM hG hp hT hS hsz
  have hlen := szL_len l
  obtain ⟨A, c, rfl, hc⟩ := hT.shape
  have HT := Lib.hid hT
  have HIH := Lib.hid ih
  have HMD := Lib.hid hM
  clear hT ih hM
  go_enter Try.func25, Try.ntmps25
  go_wp2_with fail
  go_loopw [11] (fun x wr => KpRel w p.data.toList l x wr) (fun x _ => l.length - (intOf x).toNat)
  case atStart => exact ⟨0, rfl, ⟨by omega, by rw [List.take_zero, stL_nil], by simp, Below.refl _ _⟩⟩
  case round =>
    obtain ⟨i, rfl, HR⟩ := hrel
    obtain ⟨hi, hok, hfi, hbr⟩ := HR
    have HOK := Lib.hid hok
    have HFI := Lib.hid hfi
    clear hok hfi
    by_cases hlt : i < l.length
    · obtain ⟨b, o, c', hv, _, hSb, hcell⟩ := HT.out.open_ (by omega)
      injection hv with hA _ hcc
      subst hA
      subst hcc
      obtain ⟨m, hm⟩ : ∃ m, l[i]? = some m := ⟨_, List.getElem?_eq_getElem hlt⟩
      obtain ⟨ma, mk, hmt⟩ := hcell i m hm
      have hb := hS b hSb
      obtain ⟨A3, c3, rfl, _, _⟩ := id hmt.at_
      obtain ⟨A4, c4, rfl, _⟩ := hmt.kids.shape
      have q0 : wr.cell? ⟨b, o + i * 5, none⟩ = some (.int .i64 m.kind) := (hbr.cell (p := ⟨b, o + i * 5, none⟩) hb).trans hmt.c0
      have q1 : wr.cell? ⟨b, o + i * 5 + 1, none⟩ = some (.string m.name) := (hbr.cell (p := ⟨b, o + i * 5 + 1, none⟩) hb).trans hmt.c1
      have q2 : wr.cell? ⟨b, o + i * 5 + 2, none⟩ = some (.slice A3 m.attrs.length c3) := (hbr.cell (p := ⟨b, o + i * 5 + 2, none⟩) hb).trans hmt.c2
      have q3 : wr.cell? ⟨b, o + i * 5 + 3, none⟩ = some (.string m.text) := (hbr.cell (p := ⟨b, o + i * 5 + 3, none⟩) hb).trans hmt.c3
      have q4 : wr.cell? ⟨b, o + i * 5 + 4, none⟩ = some (.slice A4 m.kids.length c4) := (hbr.cell (p := ⟨b, o + i * 5 + 4, none⟩) hb).trans hmt.c4
      have hzm := szL_at hm
      have hzk := szL_kids hm
      rw [szN_eq] at hzm
      have i1 : (i : Int) < (l.length : Int) := by omega
      have hi4 : i + 1 ≤ l.length := hlt
      have HM := Lib.hid hm
      have HSTN := Lib.hid (show (fitsB p.data.toList m && stN m) = (staysB p.data.toList m && (m.kids.all (fitsB m.name.data.toList) && stL m.kids)) by
        rw [stN_eq]
        unfold staysB
        generalize fitsB p.data.toList m = x1
        generalize (!decide (m.kind = 3) || noEnd m.text.data.toList) = x2
        generalize m.kids.all (fitsB m.name.data.toList) = x3
        generalize stL m.kids = x4
        revert x1 x2 x3 x4
        decide)
      have HKA := Lib.hid (fun (W : World) (hW : Below w.heap.size w W) => HIH.out i m hm B m.name S (.slice A4 m.kids.length c4) W (HMD.out.below hW) (hG.below hW) (by omega) (hmt.kids.keep (Kept.belowB hW hS)) (fun b h => Nat.lt_of_lt_of_le (hS b h) hW.size) (by omega))
      have hbx := box_here wr #[.int .i64 m.kind, .string m.name, .slice A3 m.attrs.length c3, .string m.text, .slice A4 m.kids.length c4] 32
      have hnb := below_new wr (.cells #[.int .i64 m.kind, .string m.name, .slice A3 m.attrs.length c3, .string m.text, .slice A4 m.kids.length c4] 32)
      have hbn := below_after hbr hnb
      have hsy := staysD_any B p m (.slice A3 m.attrs.length c3) (.slice A4 m.kids.length c4) _ (HMD.out.below hbn) ⟨_, _, rfl⟩ ⟨_, _, rfl⟩ hp (by omega) (hG.below hbn)
      obtain ⟨sy, hsyq⟩ : ∃ q, staysB p.data.toList m = q := ⟨_, rfl⟩
      obtain ⟨sk, hskq⟩ : ∃ q, (m.kids.all (fitsB m.name.data.toList) && stL m.kids) = q := ⟨_, rfl⟩
      rw [hsyq, hskq] at HSTN
      rw [hsyq] at hsy
      rw [hskq] at HKA
      have HSY := Lib.hid hsy
      have HBX := Lib.hid (And.intro hbx hbn)
      have HNO := Lib.hid (show (sy && sk) = false → (l.all (fitsB p.data.toList) && stL l) = false by
        intro h
        have h2 := HSTN.out.trans h
        rw [Bool.and_eq_false_iff] at h2 ⊢
        rcases h2 with h2 | h2
        · left
          rw [List.all_eq_false]
          exact ⟨m, List.mem_of_getElem? HM.out, by rw [h2]; decide⟩
        · right
          exact stL_not HM.out h2)
      have HYES := Lib.hid (show (sy && sk) = true → stL (l.take (i + 1)) = true ∧ (l.take (i + 1)).all (fitsB p.data.toList) = true by
        intro h
        have h2 := HSTN.out.trans h
        rw [Bool.and_eq_true] at h2
        exact ⟨stL_snoc HM.out HOK.out h2.2, by rw [all_take HM.out, HFI.out, h2.1]; rfl⟩)
      clear hcell hm hmt hsyq hskq hsy hbx hnb hbn
      go_wp2_with fail
      refine HSY.out.mono ?_
      rintro e w2 ⟨rfl, hb2⟩
      have hbx := box_below5 HBX.out.1 hb2
      have d1 := cell_at hbx 1
      have d4 := cell_at hbx 4
      have hB2 := below_after HBX.out.2 hb2
      clear hbx hb2 q0 q1 q2 q3 q4
      cases sy with
      | false =>
        go_wp2_with fail
        go_ret
        exact ⟨by rw [HNO.out rfl]; rfl, hB2⟩
      | true =>
        have HK2 := Lib.hid (HKA.out w2 hB2)
        go_wp2_with fail
        refine HK2.out.mono ?_
        rintro e w3 ⟨rfl, hb3⟩
        have hB3 := below_after hB2 hb3
        cases sk with
        | false =>
          go_wp2_with fail
          go_ret
          exact ⟨by rw [HNO.out rfl]; rfl, hB3⟩
        | true =>
          go_wp2_with fail
          go_roundw
          case rel => exact ⟨i + 1, by go_num, hi4, (HYES.out rfl).1, (HYES.out rfl).2, hB3⟩
          case measure => simp [intOf]; omega
    · have hie : i = l.length := by omega
      have HF := Lib.hid (show (l.all (fitsB p.data.toList) && stL l) = true by
        have h1 := HOK.out
        have h2 := HFI.out
        rw [hie, List.take_length] at h1 h2
        rw [h1, h2]
        rfl)
      go_wp2_with fail
      go_ret
      exact ⟨by rw [HF.out]; rfl, hbr⟩

theorem fits_top (n : Nd) : fitsB [] n = true := by
  unfold fitsB
  rw [if_neg (by decide), if_neg (by decide), show closesB [] n.name.data.toList = false from rfl]
  simp

set_option maxHeartbeats 1000000 in
theorem StableD : StableSaid := by
  intro l S v w hG hT hS hsz
  have HM := Lib.hid (mayD_any S l v w hT hS hsz)
  have HA := Lib.hid (fun (B : Nat) (W : World) (h : Below w.heap.size w W) (hMd : Made W B) => keepD_any l B ⟨#[]⟩ S v W hMd (hG.below h) (by decide) (hT.keep (Kept.belowB h hS)) (fun b hb => Nat.lt_of_lt_of_le (hS b hb) h.size) hsz)
  have hall : (l.all (fitsB (⟨#[]⟩ : ByteArray).data.toList) && stL l) = stL l := by
    rw [show l.all (fitsB (⟨#[]⟩ : ByteArray).data.toList) = true by rw [List.all_eq_true]; exact fun n _ => fits_top n]
    rfl
  rw [hall] at HA
  obtain ⟨A, c, rfl, _⟩ := hT.shape
  obtain ⟨m, hm⟩ : ∃ m, mayL false l = m := ⟨_, rfl⟩
  have hst : stableB l = (decide (m = 0) && stL l) := by unfold stableB; rw [hm]
  rw [hm] at HM
  have HST := Lib.hid hst
  clear hT hst hm hall
  by_cases h0 : m = 0
  · subst h0
    have HK := Lib.hid (show stableB l = stL l by rw [HST.out]; rfl)
    go_enter Try.func14, Try.ntmps14
    go_wp2_with fail
    refine HM.out.mono ?_
    rintro e w1 ⟨rfl, hb1⟩
    go_wp2_with fail
    refine (made_any _).mono ?_
    rintro e w2 ⟨B, rfl, hMd, hb2⟩
    have hB2 := below_after hb1 hb2
    have HA1 := Lib.hid (HA.out B w2 hB2 hMd)
    clear hMd
    go_wp2_with fail
    refine HA1.out.mono ?_
    rintro e w3 ⟨rfl, hb3⟩
    go_wp2_with fail
    go_ret
    rw [HK.out]
    exact ⟨rfl, below_after hB2 hb3⟩
  · have B0 : (m == 0) = false := by simp [h0]
    have HK := Lib.hid (show stableB l = false by rw [HST.out, decide_eq_false h0]; rfl)
    clear h0
    go_enter Try.func14, Try.ntmps14
    go_wp2_with fail
    refine HM.out.mono ?_
    rintro e w1 ⟨rfl, hb1⟩
    go_wp2_with fail
    go_ret
    rw [HK.out]
    exact ⟨rfl, hb1⟩

end Go.Proofs.Ytoidjkkjnhnbhaa

/- Part MdlS. -/
namespace Go.Proofs.Ytoidjkkjnhnbhaa
open Go.RowKit
set_option linter.unusedVariables false

theorem beq_bool (b : Bool) : (b == b) = true := by cases b <;> rfl

set_option maxHeartbeats 4000000 in
set_option maxRecDepth 100000 in
theorem modelStable_end (HC : ClosesSaid) (HFI : FitsSaid) (HST : StableSaid) (l : List Nd) (v : Value) (w : World) (hT : Tree (· < w.heap.size) w l v) (hF : Fine l) (HGB : Glob w) :
    Calls Try.prog 4 #[v] w fun e w' => e = .returned (.bool true) ∧ Below w.heap.size w w' := by
  have HFEW := Lib.hid (few_any l v w hT hF)
  clear hT hF
  go_enter Try.func4, Try.ntmps4
  go_wp2_with fail
  refine HFEW.out.mono ?_
  rintro e w1 ⟨F, vF, rfl, hoF, hzF, hb1, _⟩
  have htF : Tree (· < w1.heap.size) w1 F vF := (OwnC.tree hoF (Nat.le_refl _)).mono fun b h => h.2
  have hFF := fine_of F (by omega)
  have HG := Lib.hid (goodR_any F vF w1 htF hFF)
  have HT1 := Lib.hid htF
  have HFF := Lib.hid hFF
  clear hoF htF hFF
  go_wp2_with fail
  refine HG.out.mono ?_
  rintro e w2 ⟨G, vG, rfl, hoG, hgG, hzG, hb2⟩
  have htF2 : Tree (· < w2.heap.size) w2 F vF := (HT1.out.stay hb2).mono fun b h => Nat.lt_of_lt_of_le h hb2.size
  have htG2 : Tree (· < w2.heap.size) w2 G vG := (OwnC.tree hoG (Nat.le_refl _)).mono fun b h => h.2
  have HS := Lib.hid (goodR6_any F vF w2 htF2 HFF.out)
  have HT2 := Lib.hid (And.intro htF2 htG2)
  clear hoG hgG htF2 htG2
  go_wp2_with fail
  refine HS.out.mono ?_
  rintro e w3 ⟨G3, vS, rfl, htS, hgS, hzS, hb3⟩
  have hzS2 := steady_sz G3
  obtain ⟨Q, hQ⟩ : ∃ Q, steadyB G3 = Q := ⟨_, rfl⟩
  rw [hQ] at htS hzS2
  have HT3 := Lib.hid (fun (W : World) (h : Below w3.heap.size w3 W) =>
    (show (Tree (· < w3.heap.size) W F vF ∧ Tree (· < w3.heap.size) W G vG ∧ Tree (· < w3.heap.size) W Q vS) ∧ w3.heap.size ≤ W.heap.size from
      ⟨⟨((HT2.out.1.stay hb3).mono fun b h => Nat.lt_of_lt_of_le h hb3.size).stay h, ((HT2.out.2.stay hb3).mono fun b h => Nat.lt_of_lt_of_le h hb3.size).stay h, (htS.mono fun b h => h.2).stay h⟩, h.size⟩))
  have HB3 := Lib.hid (below_after (below_after hb1 hb2) hb3)
  have HM1 := Lib.hid (fun (W : World) (h : Below w3.heap.size w3 W) => HST F _ vF W (HGB.below (below_after HB3.out h)) (HT3.out W h).1.1 (fun b hb => Nat.lt_of_lt_of_le hb h.size) (by omega))
  have HR1 := Lib.hid (fun (W : World) (h : Below w3.heap.size w3 W) => stableR_any F _ vF W (HT3.out W h).1.1 (fun b hb => Nat.lt_of_lt_of_le hb h.size) (by omega))
  have HM2 := Lib.hid (fun (W : World) (h : Below w3.heap.size w3 W) => HST G _ vG W (HGB.below (below_after HB3.out h)) (HT3.out W h).1.2.1 (fun b hb => Nat.lt_of_lt_of_le hb h.size) (by omega))
  have HR2 := Lib.hid (fun (W : World) (h : Below w3.heap.size w3 W) => stableR_any G _ vG W (HT3.out W h).1.2.1 (fun b hb => Nat.lt_of_lt_of_le hb h.size) (by omega))
  have HM3 := Lib.hid (fun (W : World) (h : Below w3.heap.size w3 W) => HST Q _ vS W (HGB.below (below_after HB3.out h)) (HT3.out W h).1.2.2 (fun b hb => Nat.lt_of_lt_of_le hb h.size) (by omega))
  have HR3 := Lib.hid (fun (W : World) (h : Below w3.heap.size w3 W) => stableR_any Q _ vS W (HT3.out W h).1.2.2 (fun b hb => Nat.lt_of_lt_of_le hb h.size) (by omega))
  obtain ⟨s1, hs1⟩ : ∃ s, stableB F = s := ⟨_, rfl⟩
  obtain ⟨s2, hs2⟩ : ∃ s, stableB G = s := ⟨_, rfl⟩
  obtain ⟨s3, hs3⟩ : ∃ s, stableB Q = s := ⟨_, rfl⟩
  rw [hs1] at HM1 HR1
  rw [hs2] at HM2 HR2
  rw [hs3] at HM3 HR3
  have B1 := beq_bool s1
  have B2 := beq_bool s2
  have B3 := beq_bool s3
  clear htS hQ hs1 hs2 hs3 hb1 hb2 hb3 hzF hzG hzS hzS2
  have hr3 := Below.refl w3.heap.size w3
  go_wp2_with fail
  refine (HM1.out _ hr3).mono ?_
  rintro e w4 ⟨rfl, hb4⟩
  have hc4 := below_after hr3 hb4
  go_wp2_with fail
  refine (HR1.out _ hc4).mono ?_
  rintro e w5 ⟨rfl, hb5⟩
  have hc5 := below_after hc4 hb5
  go_wp2_with fail
  refine (HM2.out _ hc5).mono ?_
  rintro e w6 ⟨rfl, hb6⟩
  have hc6 := below_after hc5 hb6
  go_wp2_with fail
  refine (HR2.out _ hc6).mono ?_
  rintro e w7 ⟨rfl, hb7⟩
  have hc7 := below_after hc6 hb7
  go_wp2_with fail
  refine (HM3.out _ hc7).mono ?_
  rintro e w8 ⟨rfl, hb8⟩
  have hc8 := below_after hc7 hb8
  go_wp2_with fail
  refine (HR3.out _ hc8).mono ?_
  rintro e w9 ⟨rfl, hb9⟩
  have hc9 := below_after hc8 hb9
  go_wp2_with fail
  refine (lives6_any HC HFI HST _ (HGB.below (below_after HB3.out hc9))).mono ?_
  rintro e w10 ⟨rfl, hb10⟩
  have hc10 := below_after hc9 hb10
  go_wp2_with fail
  go_ret
  exact ⟨rfl, below_after HB3.out hc10⟩

end Go.Proofs.Ytoidjkkjnhnbhaa

/- Part TreeJ. -/
namespace Go.Proofs.Ytoidjkkjnhnbhaa
open Go.RowKit
set_option linter.unusedVariables false

theorem add_addr (b o j : Nat) : (⟨b, o, none⟩ : Addr).add j = ⟨b, o + j, none⟩ := by
  unfold Addr.add
  split
  · rename_i h0; subst h0; rfl
  · rfl

theorem run_append_zero {w : World} (base : Nat) (t ty e : TypeId) (i : TypeInfo) (size : Nat) (ht : Try.prog.underlying t = some (.slice e)) (hi : Try.prog.info? e = some i)
    (v : Value) (n : Nat) (xs : List Value) (hown : w.ownsRow base e size v n xs) (A : Option Addr) (c : Nat) :
    (Builtin.append_ #[t, t] ty #[v, .slice A 0 c]).run Try.prog w = .ok v w := by
  rcases hown.2 with ⟨rfl, rfl⟩ | ⟨g, cap, cur, rfl, _, _, hnc, _⟩
  · cases A <;> simp [Builtin.append_, run_underlying ht, sizeOf, typeInfo, hi, Builtin.lenOf, Builtin.firstCells, loadCells, loadCellsFrom]
  · cases A <;> simp [Builtin.append_, run_underlying ht, sizeOf, typeInfo, hi, Builtin.lenOf, Builtin.firstCells, hnc, storeCells, loadCells, loadCellsFrom]

/-- A list more. -/
theorem wpList_append_tree {w : World} {ops : Array Oper} {rest : List Oper} {o : Oper} {a : Act} {Q : Exit → Act → World → Prop} (hgd : o.guard = none) (s x : Operand)
    (ho : o.op = .call { callee := .builtin .append, args := #[s, x], argTypes := #[27, 27] })
    (base lo : Nat) (l : List Nd) (v : Value) (hs : a.eval s = v) (h : OwnC w base lo l v) (m : List Nd) (vx : Value) (hx : a.eval x = vx) (hm : Tree (Sub lo w v) w m vx)
    (hlen : l.length + m.length ≤ 1000000) (hbase : base ≤ w.heap.size)
    (hK : ∀ v' w', OwnC w' base lo (l ++ m) v' → w.grownBy w' v.ownBlock → wpList Try.prog ops Q rest (a.put o.dst v') w') :
    wpList Try.prog ops Q (o :: rest) a w := by
  refine wpList_plain hgd fun K hK' => ?_
  obtain ⟨i0, hi, hz0, hz1, hz2⟩ := info_parts info_node
  obtain ⟨R, rfl, hown, hat0, hk0, hn⟩ := id h
  rw [List.length_map] at hlen
  cases hm with
  | mk M _ A c hl hc hcell hat hkids =>
    subst hl
    by_cases h0 : M = []
    · subst h0
      have hrun := run_append_zero (w := w) base 27 o.type 32 i0 5 Try.underlying27 hi v R.length (ncells R) hown A c
      have hx' : a.eval x = .slice A 0 c := hx
      unfold Oper.wp
      simp [execOp, ho, resolve, invoke, builtin, hs, hx', hrun, Result.andThen]
      refine hK' _ _ (hK v w ?_ ⟨rfl, rfl, rfl, Nat.le_refl _, fun _ _ _ => rfl⟩)
      simpa using h
    · have hM : 0 < M.length := List.length_pos_iff.2 h0
      obtain ⟨b, o', rfl, hS, hcl⟩ := hcell (by rw [ncells_length]; omega)
      have h1 : ∀ u ∈ ncells M, u.oneCell' = true := by
        intro u hu
        rw [ncells, List.mem_flatMap] at hu
        obtain ⟨r, hr, hu⟩ := hu
        obtain ⟨A1, c1, hva, _⟩ := hat r hr
        obtain ⟨A2, c2, hvk, _⟩ := (hkids r hr).shape
        simp only [ncells1, List.mem_cons, List.not_mem_nil, or_false] at hu
        rcases hu with rfl | rfl | rfl | rfl | rfl
        · rfl
        · rfl
        · rw [hva]; rfl
        · rfl
        · rw [hvk]; rfl
      have hx' : a.eval x = .slice (some ⟨b, o', none⟩) M.length c := by rw [hx, List.length_map]
      rw [List.length_map] at hlen
      obtain ⟨v', w', hrun, own', hgr, hnew⟩ := run_append_new (w := w) base 27 o.type 32 i0 _ 5 88 Try.underlying27 hi hz0 hz1 hz2 rfl (by decide) v R.length (ncells R) hown ⟨b, o', none⟩ M.length c (ncells M) (ncells_length M)
        (fun j u hj => by have h9 := hcl j u hj; rw [add_addr]; exact h9) h1 (by unfold maxLen; omega) (by omega) hbase
      unfold Oper.wp
      simp [execOp, ho, resolve, invoke, builtin, hs, hx', hrun, Result.andThen]
      have hSS : ∀ b, Sub lo w v b → Sub lo w' v' b := by
        intro b hb
        refine ⟨hb.1, Nat.lt_of_lt_of_le hb.2.1 hgr.size, ?_⟩
        rcases hnew with e | e
        · rw [e]; exact hb.2.2
        · intro hg
          have := e b hg
          have := hb.2.1
          omega
      have kp : Kept (Sub lo w v) w w' := Kept.grown hgr fun b hb => ⟨hb.2.1, fun e => hb.2.2 e.symm⟩
      refine hK' _ _ (hK v' w' ⟨R ++ M, by simp, ?_, ?_, ?_, fun g hg hs => hs.2.2 hg⟩ hgr)
      · rw [List.length_append, ncells_append]
        exact own'
      · intro q hq
        rcases List.mem_append.1 hq with hq | hq
        · exact ((hat0 q hq).keep kp).mono hSS
        · exact ((hat q hq).keep kp).mono hSS
      · intro q hq
        rcases List.mem_append.1 hq with hq | hq
        · exact ((hk0 q hq).keep kp).mono hSS
        · exact ((hkids q hq).keep kp).mono hSS

/-- One node of a list, as a list. -/
theorem cut_one (W : World) (b o n c k : Nat) (hk : k < n) (hc : n ≤ c) :
    (Instr.slice 27 (.slice (some ⟨b, o, none⟩) n c) (some (.int .i64 (k : Int))) (some (.int .i64 ((k : Int) + 1))) none).run Try.prog W = .ok (.slice (some ⟨b, o + k * 5, none⟩) 1 (c - k)) W := by
  have he : Try.prog.elem 27 = 32 := by kernel_rfl
  rw [run_slice_lh W 27 (some ⟨b, o, none⟩) n c (by rw [he]; exact Try.underlying27) .i64 .i64 (k : Int) ((k : Int) + 1) (by omega) (by omega) (by omega)]
  rw [he, Try.sizeOf32]
  have e1 : ((k : Int) + 1).toNat = k + 1 := by omega
  simp only [Result.andThen, sliced, Int.toNat_natCast, e1]
  rw [if_neg (by omega), show k + 1 - k = 1 by omega, Option.map_some, add_addr]

theorem Tree.one {S : Nat → Prop} {w : World} {l : List Nd} {b o n c : Nat} (h : Tree S w l (.slice (some ⟨b, o, none⟩) n c)) {k : Nat} {m : Nd} (hm : l[k]? = some m) :
    Tree S w [m] (.slice (some ⟨b, o + k * 5, none⟩) 1 (c - k)) := by
  cases h with
  | mk R l A c hl hc hcell hat hkids =>
    subst hl
    have hk : k < (R.map Rn.n).length := (List.getElem?_eq_some_iff.1 hm).1
    rw [List.getElem?_map] at hm
    cases hr : R[k]? with
    | none => rw [hr] at hm; cases hm
    | some r =>
      rw [hr] at hm
      injection hm with hm
      subst hm
      obtain ⟨b', o', hA, hS, hcl⟩ := hcell (by rw [ncells_length]; rw [List.length_map] at hk; omega)
      injection hA with hA
      injection hA with h1 h2
      subst h1
      subst h2
      have hmem := List.mem_of_getElem? hr
      have ha := ncells_at hr
      refine Tree.mk [r] [r.n] (some ⟨b, o + k * 5, none⟩) (c - k) rfl (by simp; omega) ?_ (fun q hq => by simp at hq; subst hq; exact hat _ hmem) (fun q hq => by simp at hq; subst hq; exact hkids _ hmem)
      intro _
      refine ⟨b, o + k * 5, rfl, hS, fun j u hj => ?_⟩
      rw [show ncells [r] = ncells1 r by simp [ncells]] at hj
      rw [Nat.add_assoc]
      apply hcl
      match j, hj with
      | 0, hj => simp [ncells1] at hj; subst hj; exact ha.1
      | 1, hj => simp [ncells1] at hj; subst hj; exact ha.2.1
      | 2, hj => simp [ncells1] at hj; subst hj; exact ha.2.2.1
      | 3, hj => simp [ncells1] at hj; subst hj; exact ha.2.2.2.1
      | 4, hj => simp [ncells1] at hj; subst hj; exact ha.2.2.2.2
      | j + 5, hj => simp [ncells1] at hj

end Go.Proofs.Ytoidjkkjnhnbhaa
