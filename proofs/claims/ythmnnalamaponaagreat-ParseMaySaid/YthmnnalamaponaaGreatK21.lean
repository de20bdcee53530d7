/- Parts of the proof, in build order: DFlt StillIn DMay Right SamD. -/
import Derived.Test.YthmnnalamaponaaGreatK20
import Derived.Deep.RegionHeld3
import Derived.Test.YthmnnalamaponaaGreatK19
import Derived.StillTailTactics
import Derived.Test.YthmnnalamaponaaGreatK05
import Derived.Test.YthmnnalamaponaaGreatK13
import Derived.Test.YthmnnalamaponaaGreatK01
import Derived.BigCall
import Derived.Test.YthmnnalamaponaaGreatK11
import Derived.Laws.StructEq
import Derived.Deep.QuietTactic

/- Part DFlt. -/
namespace Go.Proofs.YthmnnalamaponaaGreat
open Go.RowKit
set_option linter.unusedVariables false

theorem isEmpty_iff (s : ByteArray) {q : Bool} (h : s.toList.isEmpty = q) : (s.data.toList = []) ↔ q = true := by rw [← h, empty_iff]; simp

set_option maxHeartbeats 4000000 in
set_option maxRecDepth 100000 in
theorem faultD_any (S : Nat → Prop) (b : Bool) (n : Nd) (va vk : Value) (w : World) (hat : AttrsAt S w n.attrs va) (hkt : Tree S w n.kids vk) (hS : ∀ b, S b → b < w.heap.size) (hsz : szN n ≤ 100000) :
    Calls Tryz.prog 40 #[.agg #[.int .i64 n.kind, .string n.name, va, .string n.text, vk], .bool b] w fun e w' => e = .returned (.int .i64 (nodeE b n)) ∧ Below w.heap.size w w' := by
  have hne := szN_eq n
  have htz : n.text.size ≤ 1000000 := by omega
  have hat0 := hat
  obtain ⟨A, c, rfl, hc, _⟩ := hat
  obtain ⟨A', c', rfl, hc'⟩ := hkt.shape
  have HT := Lib.hid (fun (W : World) (h : Below w.heap.size w W) => taggedD_any (· < w.heap.size) n _ (.slice A' n.kids.length c') W ((hat0.mono hS).keep (Kept.belowB h fun b h => h)) (fun b hb => Nat.lt_of_lt_of_le hb h.size) hsz)
  have HSH := Lib.hid (fun W => shapedD_any n.kind n.name n.text A A' n.attrs.length n.kids.length c c' W)
  obtain ⟨qs, hqs⟩ : ∃ q, shB n.kind n.name n.attrs.length n.text n.kids.length = q := ⟨_, rfl⟩
  rw [hqs] at HSH
  obtain ⟨q3, h3⟩ : ∃ q, n.text.toList.isEmpty = q := ⟨_, rfl⟩
  obtain ⟨q1, h1⟩ : ∃ q, n.name.toList.isEmpty = q := ⟨_, rfl⟩
  have ht3 := isEmpty_iff n.text h3
  have ht1 := isEmpty_iff n.name h1
  obtain ⟨q2, h2⟩ : ∃ q, isB n.text.data.toList = q := ⟨_, rfl⟩
  have hIs := fun w => is_any n.text w htz
  simp only [h2] at hIs
  have HI := Lib.hid hIs
  obtain ⟨q4, h4⟩ : ∃ q, (n.kind == 2) = q := ⟨_, rfl⟩
  obtain ⟨q5, h5⟩ : ∃ q, (n.kind == 1) = q := ⟨_, rfl⟩
  have key : nodeE b n = if qs = false then 7 else if q5 = true then tagE n else if q4 = true ∧ (b = true ∨ q3 = true) then 2 else if q2 = true then 0 else 2 := by
    unfold nodeE
    unfold shB at hqs
    rw [h1, h3] at hqs
    by_cases k1 : n.kind = 1
    · have e5 : q5 = true := by rw [← h5]; simp [k1]
      rw [if_pos k1] at hqs ⊢
      subst hqs
      unfold elemE tagE
      by_cases e : n.text.data.toList = []
      · rw [if_pos e, if_neg (show ¬ (q3 = false) by rw [ht3.1 e]; decide), if_pos e5]
      · have e3 : q3 = false := by cases q3 with
          | false => rfl
          | true => exact absurd (ht3.2 rfl) e
        rw [if_neg e, if_pos e3]
    · have e5 : q5 = false := by rw [← h5]; simp [k1]
      rw [if_neg k1] at hqs ⊢
      rw [e5, if_neg (show ¬ (false = true) by decide)]
      by_cases k23 : n.kind = 2 ∨ n.kind = 3
      · rw [if_pos k23] at hqs ⊢
        have e4 : n.kind = 2 ↔ q4 = true := by rw [← h4]; simp
        have ea : (n.attrs.length == 0) = true ↔ n.attrs = [] := by rw [beq_iff_eq, List.length_eq_zero_iff]
        have ek : (n.kids.length == 0) = true ↔ n.kids = [] := by rw [beq_iff_eq, List.length_eq_zero_iff]
        cases qs with
        | false =>
          rw [if_pos rfl, if_neg]
          rintro ⟨e1, e2, e3⟩
          rw [ht1.1 e1, ea.2 e2, ek.2 e3] at hqs
          cases hqs
        | true =>
          rw [Bool.and_eq_true, Bool.and_eq_true] at hqs
          rw [if_neg (show ¬ (true = false) by decide), if_pos ⟨ht1.2 hqs.1.1, ea.1 hqs.1.2, ek.1 hqs.2⟩]
          by_cases hx : q4 = true ∧ (b = true ∨ q3 = true)
          · rw [if_pos hx, if_neg]
            rintro ⟨_, hn⟩
            exact hn ⟨e4.2 hx.1, hx.2.elim .inr (fun h => .inl (ht3.2 h))⟩
          · rw [if_neg hx]
            cases q2 with
            | true =>
              rw [if_pos rfl, if_pos]
              exact ⟨h2, fun ⟨a, c⟩ => hx ⟨e4.1 a, c.elim (fun h => .inr (ht3.1 h)) .inl⟩⟩
            | false =>
              rw [if_neg (show ¬ (false = true) by decide), if_neg]
              rintro ⟨a, _⟩
              rw [h2] at a
              cases a
      · rw [if_neg k23] at hqs ⊢
        rw [← hqs, if_pos rfl]
  have hcells : ∀ (j : Nat) (u : Value), #[Value.int .i64 n.kind, .string n.name, .slice A n.attrs.length c, .string n.text, .slice A' n.kids.length c'][j]? = some u →
      ∀ w1, Below (w.alloc (.cells #[.int .i64 n.kind, .string n.name, .slice A n.attrs.length c, .string n.text, .slice A' n.kids.length c'] 35)).heap.size (w.alloc (.cells #[.int .i64 n.kind, .string n.name, .slice A n.attrs.length c, .string n.text, .slice A' n.kids.length c'] 35)) w1 → w1.cell? ⟨w.heap.size, j, none⟩ = some u := by
    intro j u hj w1 h1
    rw [h1.cell (p := ⟨w.heap.size, j, none⟩) (by simp)]
    rw [World.cell?_alloc_mark]
    exact hj
  have HC := Lib.hid hcells
  rw [key]
  clear hcells hat0 hkt hqs ht3 ht1 h1 h2 hIs key hne hc hc'
  go_enter Tryz.func40, Tryz.ntmps40
  go_wp2_with fail
  refine (HSH.out _).mono ?_
  rintro e w1 ⟨rfl, hb1⟩
  have c0 := HC.out 0 _ rfl w1 hb1
  have c1 := HC.out 1 _ rfl w1 hb1
  have c2 := HC.out 2 _ rfl w1 hb1
  have c3 := HC.out 3 _ rfl w1 hb1
  have c4 := HC.out 4 _ rfl w1 hb1
  have hB1 := below_after (below_new w _) hb1
  clear hb1
  cases qs with
  | false =>
    go_wp2_with fail
    go_ret
    exact ⟨rfl, hB1⟩
  | true =>
    cases q5 with
    | true =>
      have HT1 := Lib.hid (HT.out w1 hB1)
      have HB1 := Lib.hid hB1
      clear hB1
      go_wp2_with fail
      refine HT1.out.mono ?_
      rintro e w2 ⟨rfl, hb2⟩
      have hB2 := below_after HB1.out hb2
      go_wp2_with fail
      go_ret
      exact ⟨rfl, hB2⟩
    | false =>
      cases q4
      case' true => cases b
      case' true.false => cases q3
      all_goals first
        | (go_wp2_with fail
           go_ret
           exact ⟨rfl, hB1⟩)
        | (cases q2
           all_goals
             go_wp2_with fail
             refine (HI.out _).mono ?_
             rintro e w2 ⟨rfl, hb2⟩
             have hB2 := below_after hB1 hb2
             go_wp2_with fail
             go_ret
             exact ⟨rfl, hB2⟩)

end Go.Proofs.YthmnnalamaponaaGreat

/- Part StillIn. -/
namespace Go.Proofs.YthmnnalamaponaaGreat
open Go.RowKit Go.Shelf
set_option linter.unusedVariables false

variable {P : Program} {ops : Array Oper} {Q : Exit → Act → World → Prop} {md : Region.Mode}

theorem opIn_of_op {lp n i : Nat} {K : Act → World → Prop} {a : Act} {w : World} (hnd : ∀ o, ops[i]? = some o → ∀ c, o.op ≠ .defer c) (hno : ¬ LetsOut Q) (h : wpOp P ops Q i K a w) :
    wpOpIn (Fence.wide.inRound lp) n P ops Q i K a w := by
  unfold wpOp at h
  unfold wpOpIn
  cases ho : ops[i]? with
  | none => simp only [ho] at h ⊢; exact h
  | some o =>
    simp only [ho] at h ⊢
    by_cases hw : Region.wanted o (yielded ops a.tmps) = true
    · simp only [hw, if_true] at h ⊢
      rcases h with h | ⟨_, h⟩
      · unfold Oper.wp at h
        unfold Oper.wpIn
        refine ⟨fun _ _ => trivial, ?_⟩
        rw [show (Fence.wide.inRound lp).round = some lp from rfl, Oper.semAt_some lp _ _ (hnd o ho)]
        generalize (execOp a.eval o).run P w = r at *
        cases r with
        | ok x w' =>
          cases x <;> simp only [Oper.upon, Oper.uponIn] at h ⊢
          case enter f args => exact ⟨fun h => (by cases h), CallsIn.inRound lp (callsIn_wide.2 h)⟩
          case row f args => exact ⟨fun h => (by cases h), fun c cs _ => let ⟨v, w', r, s⟩ := h c cs; ⟨v, w', r, stepsIn_wide.2 s⟩⟩
          all_goals exact h
        | halt x w' => cases x <;> simp only [Oper.upon, Oper.uponIn] at h ⊢ <;> exact h
      · exact absurd h hno
    · simp only [hw] at h ⊢
      exact ⟨fun _ _ => trivial, h⟩

theorem anyIn_of_any {lp n : Nat} (hnd : ∀ (i : Nat) (o : Oper), ops[i]? = some o → ∀ c, o.op ≠ .defer c) (hno : ¬ LetsOut Q) : ∀ (fuel : Nat) (listed : Array Bool) (a : Act) (w : World),
    wpAny P md ops Q fuel listed a w → wpAnyIn (Fence.wide.inRound lp) n P md ops Q fuel listed a w
  | 0, _, _, _, h => h
  | fuel + 1, listed, a, w, h => ⟨h.1, fun i hi => wpOpIn_mono (fun a w h => anyIn_of_any hnd hno fuel _ a w h) (opIn_of_op (hnd i) hno (h.2 i hi))⟩

/-- An operation that is no 'defer'. -/
def noDefer (o : Oper) : Bool := match o.op with | .defer _ => false | _ => true
theorem noDefer_all {l : List Oper} (h : l.all noDefer = true) : ∀ (i : Nat) (o : Oper), l.toArray[i]? = some o → ∀ c, o.op ≠ .defer c := by
  intro i o hi c hc
  have hm : o ∈ l := List.mem_of_getElem? (by simpa using hi)
  have := List.all_eq_true.1 h o hm
  unfold noDefer at this
  rw [hc] at this
  cases this

theorem wpIn_region_still_tail {lp m : Nat} {id : Nat} {a : Act} {w : World} {l : List Oper} (n : Nat) (hm : P.follows .mixedOrders = true) (hB : Region.lexTailB .any l.toArray n = true)
    (hnd : l.all noDefer = true) (hno : ¬ LetsOut Q)
    (h : wpStill P l.toArray { w with drawn := w.drawn + 1 } (fun a' => wpList P l.toArray Q (l.drop n) a' { w with drawn := w.drawn + 1 }) (l.take n) a) : (Code.region id l.toArray true).wpIn (Fence.wide.inRound lp) m P Q a w := by
  simp only [Region.lexTailB, Bool.and_eq_true, decide_eq_true_eq] at hB
  obtain ⟨⟨⟨⟨hsel, hn⟩, hs⟩, hc⟩, hlex⟩ := hB
  have hn' : n < l.length := by simpa using hn
  have htl : (l.take n).length = n := by simp; omega
  have hdl : (l.drop n).length = l.toArray.size - n := by simp
  have inv0 : HeadInv .any l.toArray n (Array.replicate l.toArray.size false) :=
    ⟨by simp, fun j oj _ hl => (by rw [getD_replicate_false] at hl; cases hl), fun t _ ht => getD_in (by simpa using ht) (getD_replicate_false _ _)⟩
  have H := wpAnyL_lex (md := .any) (g := l.toArray.size - n) hsel hs hc hn (l.take n) 0 _ a (fun j hj => by
    have hj' : j < n := by rw [htl] at hj; exact hj
    simp [hj']) (by simpa using htl) inv0 (by rw [htl]; exact hlex) h
  refine wpIn_region_any hm (anyIn_of_any (noDefer_all hnd) hno _ _ _ _ ?_)
  have := wpAny_of_head (Q' := Q) (g := l.toArray.size - n) (fun listed a' hL => by
    have := wpAny_of_seq (md := .any) (Q' := Q) (l.drop n) n listed a' { w with drawn := w.drawn + 1 } (fun j => by simp [List.getElem?_drop]) (by rw [hdl]; exact hL.1) hL.2
    rwa [hdl] at this) _ _ _ H
  rw [htl, show n + (l.toArray.size - n) = l.toArray.size by omega] at this
  exact this

end Go.Proofs.YthmnnalamaponaaGreat

/- Part DMay. -/
namespace Go.Proofs.YthmnnalamaponaaGreat
open Go.RowKit Go.Shelf
set_option linter.unusedVariables false

attribute [local go_sem] Oper.semAt_some
attribute [local irreducible] wpStill

/-- The first error of a place; of places. -/
def pe (p : List Nd × Nat) : Int := match p.1[p.2]? with | some n => nodeE (behT p.1 p.2) n | none => 0
def mayQ : List (List Nd × Nat) → Int
  | [] => 0
  | p :: r => if pe p = 0 then mayQ r else pe p
theorem mayQ_cons (p : List Nd × Nat) (r : List (List Nd × Nat)) : mayQ (p :: r) = if pe p = 0 then mayQ r else pe p := rfl
theorem mayQ_append : ∀ (a b : List (List Nd × Nat)), mayQ (a ++ b) = if mayQ a = 0 then mayQ b else mayQ a
  | [], b => by rw [List.nil_append, show mayQ [] = 0 from rfl, if_pos rfl]
  | p :: a, b => by
    rw [List.cons_append, mayQ_cons, mayQ_cons]
    by_cases h : pe p = 0
    · rw [if_pos h, if_pos h, mayQ_append a b]
    · rw [if_neg h, if_neg h, if_neg h]
theorem mayQ_snoc (a : List (List Nd × Nat)) (p : List Nd × Nat) : mayQ (a ++ [p]) = if mayQ a = 0 then pe p else mayQ a := by
  rw [mayQ_append]
  have : mayQ [p] = pe p := by
    rw [mayQ_cons]
    by_cases h : pe p = 0
    · rw [if_pos h, h]; rfl
    · rw [if_neg h]
  rw [this]
theorem mayQ_pre {a b : List (List Nd × Nat)} (h : a <+: b) (hn : mayQ a ≠ 0) : mayQ b = mayQ a := by
  obtain ⟨t, rfl⟩ := h
  rw [mayQ_append, if_neg hn]

theorem mayQ_list (l : List Nd) : mayQ (plL l 0 l) = mayL false l := by
  induction l using nd_ind with
  | h l ih =>
  have key : ∀ (m i : Nat), m = l.length - i → mayQ (plL l i (l.drop i)) = mayL (behT l i) (l.drop i) := by
    intro m
    induction m with
    | zero =>
      intro i hm
      rw [List.drop_of_length_le (by omega), plL_nil, mayL_nil]
      rfl
    | succ m ihm =>
      intro i hm
      have hi : i < l.length := by omega
      rw [List.drop_eq_getElem_cons hi, plL_cons, mayL_cons, mayN_eq]
      have hx : l[i]? = some l[i] := List.getElem?_eq_getElem hi
      have hpe : pe (l, i) = nodeE (behT l i) l[i] := by unfold pe; rw [hx]
      have hbh : behT l (i + 1) = (l[i].kind == 2) := by
        show (match l[i]? with | some n => n.kind == 2 | none => false) = _
        rw [hx]
      have hk := ih i l[i] hx
      have hr := ihm (i + 1) (by omega)
      rw [hbh] at hr
      rw [mayQ_cons, hpe, mayQ_append, hk, hr]
      by_cases h1 : nodeE (behT l i) l[i] = 0
      · rw [if_pos h1, if_pos h1]
      · rw [if_neg h1, if_neg h1, if_neg h1]
  have := key l.length 0 (by omega)
  rwa [List.drop_zero] at this

set_option maxRecDepth 100000 in
set_option maxHeartbeats 2000000 in
theorem mayD_any (S : Nat → Prop) (l : List Nd) (v : Value) (w : World) (hT0 : Tree S w l v) (hS : ∀ b, S b → b < w.heap.size) (hsz : szL l ≤ 100000) :
    Calls Tryz.prog 23 #[v] w fun e W' => e = .returned (.int .i64 (mayL false l)) ∧ Below w.heap.size w W' := by
  have hT : Tree (· < w.heap.size) w l v := hT0.mono hS
  have hP : AllP PW l := allP_sz l hsz
  have HMQ := Lib.hid (mayQ_list l)
  obtain ⟨A, c, rfl, hc⟩ := hT.shape
  refine (callsIn_wide (n := 4)).1 ?_
  refine callsIn_of_wp_marks Tryz.func23 rfl trivial ?_ rfl
  simp only [Tryz.ntmps23, List.size_toArray, List.length_cons, List.length_nil, Nat.reduceAdd, Nat.reduceSub, Array.replicate_succ, Array.replicate_zero, List.push_toArray, List.append_toArray, List.nil_append, List.cons_append]
  gi_wp2_with (refine ⟨trivial, ?_⟩; gi_at_call 39; refine (all_in Fence.wide _ trivial rfl _ ⟨_, _, _, rfl⟩ _).mono ?_; rintro e w' ⟨rfl, rfl⟩)
  have hs := box_new w (.int .i64 0) 30
  have hb := box_new (w.alloc (.cells #[.int .i64 0] 30)) (.slice A l.length c) 22
  rw [World.size_alloc] at hb
  have hB0 : Below w.heap.size w ((w.alloc (.cells #[.int .i64 0] 30)).alloc (.cells #[.slice A l.length c] 22)) := ((Below.refl _ w).alloc (Nat.le_refl _) _).alloc (by simp) _
  refine wpIn_rangeFunc_ownF rfl (by decide) (gf := 56) (lb := #[.pointer (some ⟨w.heap.size + 1, 0, none⟩)]) rfl trivial (enters_of Tryz.func56 (by kernel_rfl) rfl)
    (allP_stops Fence.wide rfl _ trivial trivial rfl (w.heap.size + 1) w.heap.size w (· < w.heap.size) (fun _ h => h) PW l (.slice A l.length c) hP hsz hT _ hB0 (by simp; omega) (by simp) hb.1) belowK_t (belowK_b (by simp; omega)) (Below.refl _ _) (fun _ => rfl)
    (fun pre W => (W.cell? ⟨w.heap.size, 0, none⟩ = some (.int .i64 0) ∧ W.frozen? ⟨w.heap.size, 0, none⟩ = false ∧ mayQ (pre.map Pos.key) = 0) ∧ Below w.heap.size w W)
    (fun c pre W => (c = .ret ∧ mayQ (pre.map Pos.key) ≠ 0 ∧ W.cell? ⟨w.heap.size, 0, none⟩ = some (.int .i64 (mayQ (pre.map Pos.key)))) ∧ Below w.heap.size w W)
    (OwnFrom.and (Own.from (fun s A B row hs hg hr => ⟨cell_kept hs.1 hg hr, (frozen_kept hs.1 hg hr).trans hs.2.1, hs.2.2⟩) _) (ownFrom_below (Nat.le_refl _) (by simp; omega)))
    (fun c => OwnFrom.and (Own.from (fun s A B row hs hg hr => ⟨hs.1, hs.2.1, cell_kept hs.2.2 hg hr⟩) _) (ownFrom_below (Nat.le_refl _) (by simp; omega)))
    ⟨⟨box_past _ hs.1, box_past_f _ hs.1 hs.2, rfl⟩, hB0⟩
    (fun x => { tmps := #[.slice A l.length c, undef, .pointer (some ⟨w.heap.size, 0, none⟩), x.v, .int .i64 (x.i : Int), undef, .slice A l.length c, .func (.func 56) #[] #[.pointer (some ⟨w.heap.size + 1, 0, none⟩)], x.v, .int .i64 (x.i : Int), undef, undef, undef, undef, undef, undef, undef, undef, undef, undef, undef, undef, undef, undef, undef, undef, undef, undef, undef], defers := [] }) ?assign ?body ?done ?stop
  case assign =>
    intro lp x W K hK
    obtain ⟨A', c', hv, _⟩ := x.tree.shape
    simp only [Pos.encs, hv] at hK ⊢
    gi_wp2
    exact hK
  case body =>
    rintro lp pre x W ⟨⟨hc, hf, hq0⟩, hB⟩ hpl
    have hmx : Tryz.prog.follows .mixedOrders = true := by kernel_rfl
    have hlt := (List.getElem?_eq_some_iff.1 x.at_).1
    obtain ⟨b, o, c', hv, _, hSb, hcell⟩ := x.tree.open_ (by omega)
    obtain ⟨va, vk, hat⟩ := hcell x.i x.n x.at_
    have hsx : szL x.l ≤ 100000 := x.ok
    have hzn := szL_at x.at_
    have hle := szL_len x.l
    have HQ := Lib.hid (show mayQ ((pre ++ [x]).map Pos.key) = nodeE (behT x.l x.i) x.n by
      rw [List.map_append, List.map_cons, List.map_nil, mayQ_snoc, if_pos hq0]
      show pe (x.l, x.i) = _
      unfold pe
      rw [x.at_])
    obtain ⟨A1, c1, hva, _⟩ := id hat.at_
    obtain ⟨A2, c2, hvk, _⟩ := hat.kids.shape
    have q0 : W.cell? ⟨b, o + x.i * 5, none⟩ = some (.int .i64 x.n.kind) := (hB.cell (p := ⟨b, o + x.i * 5, none⟩) hSb).trans hat.c0
    have q1 : W.cell? ⟨b, o + x.i * 5 + 1, none⟩ = some (.string x.n.name) := (hB.cell (p := ⟨b, o + x.i * 5 + 1, none⟩) hSb).trans hat.c1
    have q2 : W.cell? ⟨b, o + x.i * 5 + 2, none⟩ = some va := (hB.cell (p := ⟨b, o + x.i * 5 + 2, none⟩) hSb).trans hat.c2
    have q3 : W.cell? ⟨b, o + x.i * 5 + 3, none⟩ = some (.string x.n.text) := (hB.cell (p := ⟨b, o + x.i * 5 + 3, none⟩) hSb).trans hat.c3
    have q4 : W.cell? ⟨b, o + x.i * 5 + 4, none⟩ = some vk := (hB.cell (p := ⟨b, o + x.i * 5 + 4, none⟩) hSb).trans hat.c4
    have hfa := faultD_any (· < w.heap.size) (behT x.l x.i) x.n va vk W.drew ((hat.at_.keep (Kept.belowB hB fun _ h => h)).keep (fun _ _ _ => rfl)) ((hat.kids.keep (Kept.belowB hB fun _ h => h)).keep (fun _ _ _ => rfl)) (fun b hb => Nat.lt_of_lt_of_le hb hB.size) (by omega)
    rw [hva, hvk] at hfa
    rw [hva] at q2
    rw [hvk] at q4
    rw [hv]
    obtain ⟨kd, hkd⟩ : ∃ kd, x.n.kind = kd := ⟨_, rfl⟩
    obtain ⟨nm, hnm⟩ : ∃ nm, x.n.name = nm := ⟨_, rfl⟩
    obtain ⟨tx, htx⟩ : ∃ tx, x.n.text = tx := ⟨_, rfl⟩
    obtain ⟨i, hi⟩ : ∃ i, x.i = i := ⟨_, rfl⟩
    obtain ⟨m, hm⟩ : ∃ m, x.l.length = m := ⟨_, rfl⟩
    have hprev : ∀ j y, i = j + 1 → x.l[j]? = some y → W.cell? ⟨b, o + j * 5, none⟩ = some (.int .i64 y.kind) ∧ behT x.l i = (y.kind == 2) := by
      rintro j y hj hy
      obtain ⟨va', vk', hat'⟩ := hcell j y hy
      refine ⟨(hB.cell (p := ⟨b, o + j * 5, none⟩) hSb).trans hat'.c0, ?_⟩
      subst hj
      show (match x.l[j]? with | some n => n.kind == 2 | none => false) = _
      rw [hy]
    obtain ⟨er, her⟩ : ∃ er, nodeE (behT x.l x.i) x.n = er := ⟨_, rfl⟩
    rw [her] at hfa HQ
    rw [hi, hm] at hlt
    rw [hm] at hle
    rw [hi] at q0 q1 q2 q3 q4 hfa
    rw [hkd, hnm, htx] at hfa
    rw [hkd] at q0
    rw [hnm] at q1
    rw [htx] at q3
    rw [hi, hm]
    have hmem : ∀ j, j < m → ∃ y, x.l[j]? = some y := fun j hj => ⟨_, List.getElem?_eq_getElem (by omega)⟩
    have HFA := Lib.hid hfa
    have HPR := Lib.hid (And.intro hprev hmem)
    have HC := Lib.hid (And.intro hc hf)
    clear hi hm hkd hnm htx hv hcell hat hpl hva hvk hprev hmem hfa her hq0 hzn hc hf
    have fin0 : ∀ w2, Below W.drew.heap.size W.drew w2 → er = 0 → KeepsOthers W w2 ∧ Below w.heap.size W w2 ∧ (w2.cell? ⟨w.heap.size, 0, none⟩ = some (.int .i64 0) ∧ w2.frozen? ⟨w.heap.size, 0, none⟩ = false ∧ mayQ ((pre ++ [x]).map Pos.key) = 0) ∧ Below w.heap.size w w2 := fun w2 hb2 he =>
      ⟨(KeepsOthers.drew W).trans (keeps_of_below hb2), (Below.refl w.heap.size W).drew.trans (hb2.mono hB.drew.size), ⟨(hb2.cell (p := ⟨w.heap.size, 0, none⟩) (box_lt HC.out.1)).trans HC.out.1, (frozen_below hb2 (box_lt HC.out.1)).trans HC.out.2, HQ.out.trans he⟩, hB.drew.trans (hb2.mono hB.drew.size)⟩
    have fin1 : ∀ w2, Below W.drew.heap.size W.drew w2 → w2.cell? ⟨w.heap.size, 0, none⟩ = some (.int .i64 0) ∧ w2.frozen? ⟨w.heap.size, 0, none⟩ = false := fun w2 hb2 =>
      ⟨(hb2.cell (p := ⟨w.heap.size, 0, none⟩) (box_lt HC.out.1)).trans HC.out.1, (frozen_below hb2 (box_lt HC.out.1)).trans HC.out.2⟩
    have fin2 : ∀ w2, Below W.drew.heap.size W.drew w2 → er ≠ 0 → KeepsOthers W (w2.setCell ⟨w.heap.size, 0, none⟩ (.int .i64 er)) ∧ (mayQ ((pre ++ [x]).map Pos.key) ≠ 0 ∧ (w2.setCell ⟨w.heap.size, 0, none⟩ (.int .i64 er)).cell? ⟨w.heap.size, 0, none⟩ = some (.int .i64 (mayQ ((pre ++ [x]).map Pos.key)))) ∧ Below w.heap.size w (w2.setCell ⟨w.heap.size, 0, none⟩ (.int .i64 er)) := fun w2 hb2 he =>
      ⟨((KeepsOthers.drew W).trans (keeps_of_below hb2)).trans (KeepsOthers.setCell _ _ _), ⟨fun h => he (HQ.out.symm.trans h), by rw [HQ.out]; exact World.cell?_setCell_same' _ _ _ (by rw [(fin1 w2 hb2).1]; rfl)⟩, (hB.drew.trans (hb2.mono hB.drew.size)).setCell (p := ⟨w.heap.size, 0, none⟩) (Nat.le_refl _) _⟩
    have F0 := Lib.hid fin0
    have F1 := Lib.hid fin1
    have F2 := Lib.hid fin2
    clear fin0 fin1 fin2
    rcases Nat.eq_zero_or_pos i with h0 | h0
    · subst h0
      rw [Nat.zero_mul, Nat.add_zero] at q0 q1 q2 q3 q4
      have HB : behT x.l 0 = false := rfl
      rw [HB] at HFA
      gi_wp2
      refine wpIn_region_still_tail 15 hmx (by kernel_rfl) (by kernel_rfl) (fun ⟨_, _, h⟩ => h) ?_
      simp only [List.take_succ_cons, List.take_zero, List.drop_succ_cons, List.drop_zero]
      repeat still_step
      refine wpStill_nil ?_
      change wpList _ _ _ _ _ W.drew
      go_wp2_with fail
      refine HFA.out.mono ?_
      rintro e w2 ⟨rfl, hb2⟩
      obtain ⟨k1, k2⟩ := F1.out w2 hb2
      go_wp2_with fail
      by_cases he : er = 0
      · have B0 : (er != 0) = false := by rw [he]; rfl
        gi_wp2
        exact F0.out w2 hb2 he
      · have B0 : (er != 0) = true := by simp [he]
        gi_wp2
        exact ⟨(F2.out w2 hb2 he).1, ⟨rfl, (F2.out w2 hb2 he).2.1⟩, (F2.out w2 hb2 he).2.2⟩
    · obtain ⟨j, hj⟩ : ∃ j, i = j + 1 := ⟨i - 1, by omega⟩
      obtain ⟨y, hy⟩ := HPR.out.2 j (by omega)
      obtain ⟨p0, hbh⟩ := HPR.out.1 j y hj hy
      rw [hbh] at HFA
      have i0 : 0 < i := h0
      have D0 : decide (0 < i) = true := decide_eq_true h0
      have i1 : (i : Int) < (m : Int) := by omega
      have i2 : (j : Int) < (m : Int) := by omega
      have i3 : (i : Int) - 1 = (j : Int) := by omega
      have i4 : IntKind.i64.wrap (j : Int) = (j : Int) := by rw [IntKind.wrap_i64]; omega
      clear hbh hy hj h0
      gi_wp2
      refine wpIn_region_still_tail 15 hmx (by kernel_rfl) (by kernel_rfl) (fun ⟨_, _, h⟩ => h) ?_
      simp only [List.take_succ_cons, List.take_zero, List.drop_succ_cons, List.drop_zero]
      repeat still_step
      refine wpStill_nil ?_
      change wpList _ _ _ _ _ W.drew
      go_wp2_with fail
      refine HFA.out.mono ?_
      rintro e w2 ⟨rfl, hb2⟩
      obtain ⟨k1, k2⟩ := F1.out w2 hb2
      go_wp2_with fail
      by_cases he : er = 0
      · have B0 : (er != 0) = false := by rw [he]; rfl
        gi_wp2
        exact F0.out w2 hb2 he
      · have B0 : (er != 0) = true := by simp [he]
        gi_wp2
        exact ⟨(F2.out w2 hb2 he).1, ⟨rfl, (F2.out w2 hb2 he).2.1⟩, (F2.out w2 hb2 he).2.2⟩
  case done =>
    rintro D ys W hD hys ⟨⟨hc, hf, hq⟩, hB⟩ hK
    have hz : mayL false l = 0 := by rw [← HMQ.out, ← hys]; exact hq
    have HZ := Lib.hid hz
    clear hys hq hz
    gi_wp2
    have hK' := (KeepsOthers.setCell W ⟨w.heap.size, 0, none⟩ (.int .i64 0)).same D _ hK rfl
    refine ⟨by simp, .inl ⟨_, _, rfl, run_takeDeferred hK', ?_⟩⟩
    have hc5 := cell_kept (World.cell?_setCell_same' W ⟨w.heap.size, 0, none⟩ (.int .i64 0) (by rw [hc]; rfl)) (grownBy_putObj' _ D (.deferred none)) (fun r e => by cases e; exact ⟨_, hK', rfl⟩)
    refine ⟨.int .i64 0, ?_, by rw [HZ.out], (hB.setCell (p := ⟨w.heap.size, 0, none⟩) (by simp) _).trans (belowK_b (w := w) (Nat.le_refl _) _ D _ _ (by simp at hD; omega) hK' rfl rfl)⟩
    simp [results, Tryz.f23, go_sem, hc5]
  case stop =>
    rintro D c pre W hD hpre ⟨⟨rfl, hne, hc⟩, hB⟩ hK
    have hz : mayL false l = mayQ (pre.map Pos.key) := by rw [← HMQ.out]; exact mayQ_pre hpre hne
    have HZ := Lib.hid hz
    clear hpre hne hz
    gi_wp2
    refine ⟨by simp, .inl ⟨_, _, rfl, run_takeDeferred hK, ?_⟩⟩
    have hc5 := cell_kept hc (grownBy_putObj' _ D (.deferred none)) (fun r e => by cases e; exact ⟨_, hK, rfl⟩)
    refine ⟨.int .i64 (mayQ (pre.map Pos.key)), ?_, by rw [HZ.out], hB.trans (belowK_b (w := w) (Nat.le_refl _) _ D _ _ (by simp at hD; omega) hK rfl rfl)⟩
    simp [results, Tryz.f23, go_sem, hc5]

end Go.Proofs.YthmnnalamaponaaGreat

/- Part Right. -/
namespace Go.Proofs.YthmnnalamaponaaGreat
open Go.RowKit
set_option linter.unusedVariables false

theorem cells_snoc (acc : List Int) (r : Int) : Lib.byteCells (enc (acc ++ [r])) = Lib.byteCells (enc acc) ++ Lib.runeCells r := by
  rw [enc_append, Lib.byteCells_append, ← Lib.byteCells_encodeRune]
  simp [enc]

theorem enc_snoc_le (acc : List Int) {n : Nat} (h : acc.length ≤ n) : (enc acc).length ≤ 4 * n := by
  have := enc_len acc
  omega

/-- What holds at a round's head: the builder, the place in the text, the rest. -/
structure RightAt (w wr : World) (s : ByteArray) (l : List UInt8) (Bi pos : Nat) (a : Int) (acc : List Int) : Prop where
  le : pos ≤ l.length
  is : norm 0 (runes l) = acc ++ norm a (runes (l.drop pos))
  len : acc.length ≤ pos
  bu : Lib.IsBuilderF 92 5 w.heap.size w.heap.size (Lib.byteCells (enc acc)) wr
  it : wr.heap[Bi]? = some (.stringIter s pos)
  bel : Below w.heap.size w wr

set_option maxHeartbeats 1000000 in
set_option maxRecDepth 100000 in
theorem right_any (A : Option Addr) (c : Nat) (l : List UInt8) (w : World) (hs : Sits w w.heap.size A (Lib.byteCells l)) (hm : l.length ≤ 1000000) :
    Calls Tryz.prog 114 #[.slice A l.length c] w fun e w' => e = .returned (.string ⟨(right l).toArray⟩) ∧ Below w.heap.size w w' := by
  have HS := Lib.hid hs
  clear hs
  go_enter Tryz.func114, Tryz.ntmps114
  go_wp2_with fail
  refine (Tryz.Builder_Grow_fresh w.heap.size w.heap.size l.length _ (Nat.le_refl _) (heap_alloc_new w _) (by simp) (by omega)).mono ?_
  rintro e w1 ⟨rfl, hbu, hb1⟩
  have hz1 : w.heap.size < w1.heap.size := by have := hb1.size; simp at this; omega
  have hB1 : Below w.heap.size w w1 := ((Below.refl _ w).alloc (Nat.le_refl _) _).trans hb1
  have hI1 : Lib.IsBuilderF 92 5 w.heap.size w.heap.size (Lib.byteCells (enc [])) w1 := Lib.IsBuilderF.of (Or.inr hbu)
  clear hbu hb1
  have kc := convert_bytes (c := c) (HS.out.below hB1)
  obtain ⟨s, hs⟩ : ∃ s : ByteArray, s = ⟨l.toArray⟩ := ⟨_, rfl⟩
  rw [← hs] at kc
  have hsl : s.data.toList = l := by rw [hs]
  have hsz : s.size = l.length := by rw [hs]; rfl
  have HSL := Lib.hid hsl
  have HSZ := Lib.hid hsz
  clear hs hsl hsz
  go_wp2_with fail
  go_loopw [4] (fun a wr => ∃ (pos : Nat) (x : Int) (acc : List Int), a = .int .i32 x ∧ RightAt w wr s l w1.heap.size pos x acc) (fun _ wr => s.size - wr.iterPos w1.heap.size)
  case atStart =>
    refine ⟨0, 0, [], rfl, by omega, by simp, by simp, ?_, World.iter_heap w1 s 0, ?_⟩
    · exact hI1.alloc _
    · exact hB1.alloc hB1.size _
  case round =>
    obtain ⟨pos, x, acc, rfl, HR⟩ := hrel
    have hit := HR.it
    have hle := HR.le
    have hlen := HR.len
    have hzr : w1.heap.size < wr.heap.size := (Array.getElem?_eq_some_iff.1 hit).1
    by_cases hp : pos < l.length
    · have hps : pos < s.size := by rw [HSZ.out]; exact hp
      obtain ⟨r, d, hd⟩ : ∃ r d, dec (l.drop pos) = (r, d) := ⟨_, _, rfl⟩
      have hdec : Utf8.decode s pos = (r, d) := by rw [decode_dec, HSL.out, hd]
      have hnx : ∀ ty, (Instr.next (.pointer (some ⟨w1.heap.size, 0, none⟩)) true ty).run Tryz.prog wr = .ok (.tuple #[.bool true, .int .i64 pos, .int .i32 r]) (wr.iterAt w1.heap.size s (pos + d)) := fun ty => by
        rw [Lib.run_next_any_at wr w1.heap.size s pos ty hit hps, hdec]
      have hw := dec_width (l := l.drop pos) (by rw [List.length_drop]; omega)
      have hok := dec_ok (l.drop pos)
      have hst := runes_step (l := l.drop pos) (by rw [List.length_drop]; omega)
      rw [hd] at hw hok hst
      rw [List.drop_drop] at hst
      rw [List.length_drop] at hw
      simp only at hw hok hst
      have HST := Lib.hid hst
      have HOK := Lib.hid hok
      have hI2 := HR.bu.iterAt hit (pos + d)
      have hit2 := Lib.iterAt_heap wr w1.heap.size s pos (pos + d) hit
      have hbw2 := Lib.below_iterAt HR.bel (k := w1.heap.size) hB1.size s (pos + d)
      have hel := enc_snoc_le acc HR.len
      have HIT2 := Lib.hid hit2
      clear hd hdec hst hit hit2 hok
      have hr1 : (r : Int) ≤ 1114111 := by have := HOK.out; unfold okR at this; omega
      by_cases h13 : r = 13
      · subst h13
        go_wp2_with fail
        refine (Tryz.Builder_WriteByte_k w.heap.size w.heap.size _ 10 _ hI2 (by rw [Lib.byteCells_length]; omega) hbw2.size).mono ?_
        rintro e w2 ⟨rfl, h1, b1, k1⟩
        have hit3 := k1.iter HIT2.out (by have := hB1.size; omega)
        have HIT3 := Lib.hid hit3
        clear hit3 k1
        go_wp2
        go_roundw
        case rel =>
          refine ⟨pos + d, 13, acc ++ [10], rfl, by omega, ?_, by simp; omega, ?_, HIT3.out, hbw2.trans b1⟩
          · rw [HR.is, HST.out]
            exact (congrArg (acc ++ ·) (norm_13 x _)).trans (by rw [List.append_assoc]; rfl)
          · rw [cells_snoc]; exact Or.inr h1
        case measure => simp only [World.iterPos, HIT3.out, HR.it]; have := HSZ.out; omega
      by_cases h10 : r = 10 ∧ x = 13
      · obtain ⟨rfl, rfl⟩ := h10
        go_wp2
        go_roundw
        case rel =>
          refine ⟨pos + d, 10, acc, rfl, by omega, ?_, by omega, hI2, HIT2.out, hbw2⟩
          rw [HR.is, HST.out]
          exact congrArg (acc ++ ·) (norm_10 _)
        case measure => simp only [World.iterPos, HIT2.out, HR.it]; have := HSZ.out; omega
      by_cases h0 : r = 0
      · subst h0
        go_wp2_with fail
        refine (Tryz.Builder_WriteRune_k w.heap.size w.heap.size _ 65533 (by omega) (by omega) _ hI2 (by rw [Lib.byteCells_length]; omega) hbw2.size).mono ?_
        rintro e w2 ⟨rfl, h1, b1, k1⟩
        have hit3 := k1.iter HIT2.out (by have := hB1.size; omega)
        have HIT3 := Lib.hid hit3
        clear hit3 k1
        go_wp2
        go_roundw
        case rel =>
          refine ⟨pos + d, 0, acc ++ [65533], rfl, by omega, ?_, by simp; omega, ?_, HIT3.out, hbw2.trans b1⟩
          · rw [HR.is, HST.out]
            exact (congrArg (acc ++ ·) (norm_0 x _)).trans (by rw [List.append_assoc]; rfl)
          · rw [cells_snoc]; exact Or.inr h1
        case measure => simp only [World.iterPos, HIT3.out, HR.it]; have := HSZ.out; omega
      · have B13 : ((r : Int) == 13) = false := by simp; omega
        have B0 : ((r : Int) == 0) = false := by simp; omega
        have hn : norm x ((r : Int) :: runes (l.drop (pos + d))) = (r : Int) :: norm r (runes (l.drop (pos + d))) := norm_r _ (by omega) (by omega) (by omega)
        have HN := Lib.hid hn
        clear hn
        by_cases h10' : r = 10
        · have hx : (x == 13) = false := by simp; omega
          subst h10'
          clear h10
          go_wp2_with fail
          refine (Tryz.Builder_WriteRune_k w.heap.size w.heap.size _ 10 (by omega) (by omega) _ hI2 (by rw [Lib.byteCells_length]; omega) hbw2.size).mono ?_
          rintro e w2 ⟨rfl, h1, b1, k1⟩
          have hit3 := k1.iter HIT2.out (by have := hB1.size; omega)
          have HIT3 := Lib.hid hit3
          clear hit3 k1
          go_wp2
          go_roundw
          case rel =>
            refine ⟨pos + d, 10, acc ++ [10], rfl, by omega, ?_, by simp; omega, ?_, HIT3.out, hbw2.trans b1⟩
            · rw [HR.is, HST.out]
              exact (congrArg (acc ++ ·) HN.out).trans (by rw [List.append_assoc]; rfl)
            · rw [cells_snoc]; exact Or.inr h1
          case measure => simp only [World.iterPos, HIT3.out, HR.it]; have := HSZ.out; omega
        · have B10 : ((r : Int) == 10) = false := by simp; omega
          clear h10 h13 h0 h10'
          go_wp2_with fail
          refine (Tryz.Builder_WriteRune_k w.heap.size w.heap.size _ r (by omega) (by omega) _ hI2 (by rw [Lib.byteCells_length]; omega) hbw2.size).mono ?_
          rintro e w2 ⟨rfl, h1, b1, k1⟩
          have hit3 := k1.iter HIT2.out (by have := hB1.size; omega)
          have HIT3 := Lib.hid hit3
          clear hit3 k1
          go_wp2
          go_roundw
          case rel =>
            refine ⟨pos + d, r, acc ++ [(r : Int)], rfl, by omega, ?_, by simp; omega, ?_, HIT3.out, hbw2.trans b1⟩
            · rw [HR.is, HST.out, HN.out, List.append_assoc]; rfl
            · rw [cells_snoc]; exact Or.inr h1
          case measure => simp only [World.iterPos, HIT3.out, HR.it]; have := HSZ.out; omega
    · have hps : ¬ pos < s.size := by rw [HSZ.out]; exact hp
      have hnx : ∀ ty, (Instr.next (.pointer (some ⟨w1.heap.size, 0, none⟩)) true ty).run Tryz.prog wr = _ := fun ty => Lib.run_next_end_at wr w1.heap.size s pos ty hit hps
      clear hps
      have hr : right l = enc acc := by
        have := HR.is
        rw [List.drop_of_length_le (by omega), runes_nil] at this
        unfold right
        rw [this]
        simp [norm]
      have HRR := Lib.hid hr
      clear hr hit
      go_wp2_with fail
      refine (Tryz.Builder_String_any_k w.heap.size w.heap.size (enc acc) _ HR.bu HR.bel.size).mono ?_
      rintro e w2 ⟨rfl, _, hb2, _⟩
      have hB2 := HR.bel.trans hb2
      go_wp2
      go_ret
      rw [HRR.out]
      exact ⟨rfl, hB2⟩

end Go.Proofs.YthmnnalamaponaaGreat

/- Part SamD. -/
namespace Go.Proofs.YthmnnalamaponaaGreat
open Go.RowKit
set_option linter.unusedVariables false

theorem attr_fields : (Tryz.prog.fieldsOf 39).toList.map (fun f => (f.name, f.type, f.offset)) = [("Name", 9, 0), ("Value", 9, 1)] := by kernel_rfl
theorem two_of {α β : Type} (φ : α → β) {l : List α} {x y : β} (h : l.map φ = [x, y]) : ∃ f g, l = [f, g] ∧ φ f = x ∧ φ g = y := by
  cases l with
  | nil => simp at h
  | cons f l =>
    cases l with
    | nil => simp at h
    | cons g l =>
      cases l with
      | nil =>
        simp only [List.map_cons, List.map_nil, List.cons.injEq, and_true] at h
        exact ⟨f, g, rfl, h.1, h.2⟩
      | cons k l => simp at h
theorem neq_attr (w : World) (p q : ByteArray × ByteArray) : (binOp .neq 39 (.agg #[.string p.1, .string p.2]) (.agg #[.string q.1, .string q.2])).run Tryz.prog w = .ok (.bool (!decide (p = q))) w := by
  obtain ⟨p1, p2⟩ := p
  obtain ⟨q1, q2⟩ := q
  have a0 : ∀ (a b : ByteArray), (part 9 #[.string a, .string b] 0).run Tryz.prog w = .ok (.string a) w := fun _ _ => by kernel_rfl
  have a1 : ∀ (a b : ByteArray), (part 9 #[.string a, .string b] 1).run Tryz.prog w = .ok (.string b) w := fun _ _ => by kernel_rfl
  have ae : ∀ (a b : ByteArray), (Op.equalIn 9999 9 (.string a) (.string b)).run Tryz.prog w = .ok (decide (a = b)) w := fun a b => by
    rw [run_equalIn_string w 9998 _ _ _ (by kernel_rfl), str_eq]
  rw [run_neq_struct, run_equalIn_agg w 9999 _ _ _ (by kernel_rfl) (by kernel_rfl)]
  obtain ⟨f, g, hl, hf, hg⟩ := two_of _ attr_fields
  simp only [Prod.mk.injEq] at hf hg
  obtain ⟨h1, h2, h3⟩ := hf
  obtain ⟨h4, h5, h6⟩ := hg
  have n1 : ("Name" ≠ "_") = True := by simp
  have n2 : ("Value" ≠ "_") = True := by simp
  rw [hl]
  simp only [Op.eqFields, h1, h2, h3, h4, h5, h6, n1, n2, if_true, Sem.run_bind, a0, ae, Result.andThen_ok]
  by_cases e1 : p1 = q1 <;> by_cases e2 : p2 = q2 <;> simp [e1, e2, Sem.run_bind, a1, ae, Result.andThen_ok, Sem.run_pure]

structure EqIn (w wr : World) (p q : List (ByteArray × ByteArray)) (j : Nat) : Prop where
  le : j ≤ p.length
  eq : p.take j = q.take j
  bel : Below w.heap.size w wr
def EqRel (w : World) (p q : List (ByteArray × ByteArray)) (x : Value) (wr : World) : Prop := ∃ j : Nat, x = .int .i64 j ∧ EqIn w wr p q j

set_option maxHeartbeats 2000000 in
set_option maxRecDepth 100000 in
theorem equalA_any (p q : List (ByteArray × ByteArray)) (S S' : Nat → Prop) (v v' : Value) (w : World) (hT : AttrsAt S w p v) (hT' : AttrsAt S' w q v') (hS : ∀ k, S k → k < w.heap.size) (hS' : ∀ k, S' k → k < w.heap.size) (hz : p.length ≤ 100000000) (hz' : q.length ≤ 100000000) :
    Calls Tryz.prog 53 #[v, v'] w fun e w' => e = .returned (.bool (decide (p = q))) ∧ Below w.heap.size w w' := by
  obtain ⟨A, c, rfl, hc, _⟩ := id hT
  obtain ⟨A', c', rfl, hc', _⟩ := id hT'
  have HT := Lib.hid hT
  have HT' := Lib.hid hT'
  clear hT hT'
  by_cases hab : p.length = q.length
  · have B3 : ((p.length : Int) != (q.length : Int)) = false := by simp [hab]
    have HAB := Lib.hid hab
    clear hab
    have hg : Tryz.prog.eqGuardType Tryz.prog.depth 39 = false := by kernel_rfl
    have hq := neq_attr
    go_enter Tryz.func53, Tryz.ntmps53
    go_wp2_with fail
    go_loopw [13] (fun x wr => EqRel w p q x wr) (fun x _ => p.length - (intOf x).toNat)
    case atStart => exact ⟨0, rfl, ⟨by omega, by simp, Below.refl _ _⟩⟩
    case round =>
      obtain ⟨j, rfl, HR⟩ := hrel
      have hj := HR.le
      have hbr := HR.bel
      have HEQ := Lib.hid HR.eq
      clear HR
      by_cases hlj : j < p.length
      · have hly : j < q.length := by have := HAB.out; omega
        obtain ⟨d, m, cm, hv3, _, hSd, hatt⟩ := HT.out.at_ (by omega)
        obtain ⟨d', m', cm', hv4, _, hSd', hatt'⟩ := HT'.out.at_ (by omega)
        injection hv3 with hA3 _ hcc3
        injection hv4 with hA4 _ hcc4
        subst hA3
        subst hcc3
        subst hA4
        subst hcc4
        obtain ⟨x, hx⟩ : ∃ x, p[j]? = some x := ⟨_, List.getElem?_eq_getElem hlj⟩
        obtain ⟨y, hy⟩ : ∃ y, q[j]? = some y := ⟨_, List.getElem?_eq_getElem hly⟩
        have hd := hS d hSd
        have hd' := hS' d' hSd'
        have p0 : wr.cell? ⟨d, m + j * 2, none⟩ = some (.string x.1) := (hbr.cell (p := ⟨d, m + j * 2, none⟩) hd).trans (hatt j x hx).1
        have p1 : wr.cell? ⟨d, m + j * 2 + 1, none⟩ = some (.string x.2) := (hbr.cell (p := ⟨d, m + j * 2 + 1, none⟩) hd).trans (hatt j x hx).2
        have u0 : wr.cell? ⟨d', m' + j * 2, none⟩ = some (.string y.1) := (hbr.cell (p := ⟨d', m' + j * 2, none⟩) hd').trans (hatt' j y hy).1
        have u1 : wr.cell? ⟨d', m' + j * 2 + 1, none⟩ = some (.string y.2) := (hbr.cell (p := ⟨d', m' + j * 2 + 1, none⟩) hd').trans (hatt' j y hy).2
        have i3 : (j : Int) < (p.length : Int) := by omega
        have i4 : (0 : Int) ≤ (j : Int) := by omega
        have i5 : (j : Int) < (q.length : Int) := by omega
        have hxy := fun W => hq W x y
        have HX := Lib.hid hx
        have HY := Lib.hid hy
        clear hatt hatt' hx hy hly hq
        by_cases f : x = y
        · rw [show (!decide (x = y)) = false by simp [f]] at hxy
          have HF := Lib.hid f
          clear f
          go_wp2_with fail
          go_quiet (fail)
          go_wp2_with fail
          go_roundw
          case rel => exact ⟨j + 1, by go_num, by omega, take_same HEQ.out HX.out (by rw [HF.out]; exact HY.out), dN_below hbr _⟩
          case measure => simp [intOf]; omega
        · rw [show (!decide (x = y)) = true by simp [f]] at hxy
          have HF := Lib.hid (show decide (p = q) = false from decide_eq_false fun e => f (by have h1 := HX.out; have h2 := HY.out; rw [e, h2] at h1; injection h1 with h1; exact h1.symm))
          clear f
          go_wp2_with fail
          go_quiet (fail)
          go_wp2_with fail
          go_ret
          rw [HF.out]
          exact ⟨rfl, dN_below hbr _⟩
      · have hke : j = p.length := by omega
        have HF := Lib.hid (show decide (p = q) = true from decide_eq_true (by
          have h1 := HEQ.out
          rwa [List.take_of_length_le (by omega), List.take_of_length_le (by have := HAB.out; omega)] at h1))
        go_wp2_with fail
        go_ret
        rw [HF.out]
        exact ⟨rfl, hbr⟩
  · have B3 : ((p.length : Int) != (q.length : Int)) = true := by simp; omega
    have HF := Lib.hid (show decide (p = q) = false from decide_eq_false fun e => hab (by rw [e]))
    clear hab
    go_enter Tryz.func53, Tryz.ntmps53
    go_wp2_with fail
    go_ret
    rw [HF.out]
    exact ⟨rfl, Below.refl _ _⟩

/-- A node as a value. -/
def ndV (x : Nd) (va vk : Value) : Value := .agg #[.int .i64 x.kind, .string x.name, va, .string x.text, vk]

set_option maxHeartbeats 2000000 in
set_option maxRecDepth 100000 in
theorem alike_any (x y : Nd) (S S' : Nat → Prop) (xa xk ya yk : Value) (w : World) (hxa : AttrsAt S w x.attrs xa) (hya : AttrsAt S' w y.attrs ya) (hS : ∀ k, S k → k < w.heap.size) (hS' : ∀ k, S' k → k < w.heap.size) (hz : szN x ≤ 100000000) (hz' : szN y ≤ 100000000)
    (hxk : ∃ A n c, xk = .slice A n c) (hyk : ∃ A n c, yk = .slice A n c)
    (HSM : ∀ W, Below w.heap.size w W → Calls Tryz.prog 21 #[xk, yk] W fun e w' => e = .returned (.bool (sameL x.kids y.kids)) ∧ Below W.heap.size W w') :
    Calls Tryz.prog 37 #[.agg #[.int .i64 x.kind, .string x.name, xa, .string x.text, xk], .agg #[.int .i64 y.kind, .string y.name, ya, .string y.text, yk]] w fun e w' => e = .returned (.bool (sameN x y)) ∧ Below w.heap.size w w' := by
  rw [szN_eq] at hz hz'
  have hal := szA_len x.attrs
  have hal' := szA_len y.attrs
  have HE := Lib.hid (fun (W : World) (h : Below w.heap.size w W) => equalA_any x.attrs y.attrs S S' xa ya W (hxa.keep (Kept.belowB h hS)) (hya.keep (Kept.belowB h hS')) (fun k hk => Nat.lt_of_lt_of_le (hS k hk) h.size) (fun k hk => Nat.lt_of_lt_of_le (hS' k hk) h.size) (by omega) (by omega))
  have HS := Lib.hid HSM
  obtain ⟨A1, c1, rfl, _, _⟩ := id hxa
  obtain ⟨A3, c3, rfl, _, _⟩ := id hya
  obtain ⟨A2, n2, c2, rfl⟩ := hxk
  obtain ⟨A4, n4, c4, rfl⟩ := hyk
  have hq := sameN_eq x y
  have hs1 := str_eq x.name y.name
  have hs2 := str_eq x.text y.text
  obtain ⟨r, hr⟩ : ∃ r, sameL x.kids y.kids = r := ⟨_, rfl⟩
  obtain ⟨n, hn⟩ : ∃ n, x.attrs.length = n := ⟨_, rfl⟩
  obtain ⟨n', hn'⟩ : ∃ n, y.attrs.length = n := ⟨_, rfl⟩
  rw [hr] at hq HS
  rw [hn, hn'] at HE
  rw [hn, hn']
  have hk1 : (x.kind == y.kind) = decide (x.kind = y.kind) := rfl
  obtain ⟨b0, hb0⟩ : ∃ b, decide (x.kind = y.kind) = b := ⟨_, rfl⟩
  obtain ⟨b1, hb1⟩ : ∃ b, decide (x.name = y.name) = b := ⟨_, rfl⟩
  obtain ⟨b2, hb2⟩ : ∃ b, decide (x.text = y.text) = b := ⟨_, rfl⟩
  obtain ⟨b3, hb3⟩ : ∃ b, decide (x.attrs = y.attrs) = b := ⟨_, rfl⟩
  rw [hb0] at hq hk1
  rw [hb1] at hq hs1
  rw [hb2] at hq hs2
  rw [hb3] at hq HE
  rw [hq]
  have hB : Below w.heap.size w ((w.alloc (.cells #[.int .i64 x.kind, .string x.name, .slice A1 n c1, .string x.text, .slice A2 n2 c2] 35)).alloc (.cells #[.int .i64 y.kind, .string y.name, .slice A3 n' c3, .string y.text, .slice A4 n4 c4] 35)) :=
    (below_new w _).alloc (by simp) _
  clear hxa hya HSM hr hn hn' hb0 hb1 hb2 hb3 hq hal hal' hz hz'
  cases b0 with
  | false =>
    go_enter Tryz.func37, Tryz.ntmps37
    go_wp2_with fail
    go_ret
    exact ⟨by simp, hB⟩
  | true =>
    cases b1 with
    | false =>
      go_enter Tryz.func37, Tryz.ntmps37
      go_wp2_with fail
      go_ret
      exact ⟨by simp, hB⟩
    | true =>
      cases b2 with
      | false =>
        go_enter Tryz.func37, Tryz.ntmps37
        go_wp2_with fail
        go_ret
        exact ⟨by simp, hB⟩
      | true =>
        go_enter Tryz.func37, Tryz.ntmps37
        go_wp2_with fail
        refine (HE.out _ hB).mono ?_
        rintro e w1 ⟨rfl, hb1⟩
        have hB1 := below_after hB hb1
        have k4 : w1.cell? ⟨w.heap.size, 4, none⟩ = some (.slice A2 n2 c2) := (hb1.cell (p := ⟨w.heap.size, 4, none⟩) (by simp; omega)).trans (by
          rw [World.cell?_alloc_past _ _ _ (by simp), World.cell?_alloc_mark]; rfl)
        have l4 : w1.cell? ⟨w.heap.size + 1, 4, none⟩ = some (.slice A4 n4 c4) := (hb1.cell (p := ⟨w.heap.size + 1, 4, none⟩) (by simp)).trans (by
          have h := World.cell?_alloc_mark (w.alloc (.cells #[.int .i64 x.kind, .string x.name, .slice A1 n c1, .string x.text, .slice A2 n2 c2] 35)) #[.int .i64 y.kind, .string y.name, .slice A3 n' c3, .string y.text, .slice A4 n4 c4] 35 (0, 0) 4
          rw [World.size_alloc] at h
          exact h.trans rfl)
        cases b3 with
        | false =>
          go_wp2_with fail
          go_ret
          exact ⟨by simp, hB1⟩
        | true =>
          go_wp2_with fail
          refine (HS.out _ hB1).mono ?_
          rintro e w2 ⟨rfl, hb2⟩
          have hB2 := below_after hB1 hb2
          go_wp2_with fail
          go_ret
          exact ⟨by simp, hB2⟩

structure EfAt (w wr : World) (a b : List Nd) (i : Nat) : Prop where
  le : i ≤ a.length
  eq : a.take i = b.take i
  bel : Below w.heap.size w wr
def EfRel (w : World) (a b : List Nd) (x : Value) (wr : World) : Prop := ∃ i : Nat, x = .int .i64 i ∧ EfAt w wr a b i

set_option maxHeartbeats 2000000 in
set_option maxRecDepth 100000 in
theorem equalF_any (a b : List Nd) (S S' : Nat → Prop) (v v' : Value) (w : World) (hT : Tree S w a v) (hT' : Tree S' w b v') (hS : ∀ k, S k → k < w.heap.size) (hS' : ∀ k, S' k → k < w.heap.size) (hsz : szL a ≤ 100000000) (hsz' : szL b ≤ 100000000)
    (HSM : ∀ (i : Nat) (x y : Nd) (xk yk : Value) (W : World), a[i]? = some x → b[i]? = some y → Tree S W x.kids xk → Tree S' W y.kids yk → Below w.heap.size w W → Calls Tryz.prog 21 #[xk, yk] W fun e w' => e = .returned (.bool (sameL x.kids y.kids)) ∧ Below W.heap.size W w') :
    Calls Tryz.prog 36 #[v, v', .func (.func 37) #[] #[]] w fun e w' => e = .returned (.bool (sameL a b)) ∧ Below w.heap.size w w' := by
  have hlen := szL_len a
  have hlen' := szL_len b
  obtain ⟨A, c, rfl, hc⟩ := hT.shape
  obtain ⟨A', c', rfl, hc'⟩ := hT'.shape
  have HT := Lib.hid hT
  have HT' := Lib.hid hT'
  have HIH := Lib.hid HSM
  clear hT hT' HSM
  by_cases hab : a.length = b.length
  · have HAB := Lib.hid hab
    obtain ⟨n, hn⟩ : ∃ n, a.length = n := ⟨_, rfl⟩
    have hnb : b.length = n := by omega
    rw [hn] at hlen hc ⊢
    rw [hnb] at hlen' hc' ⊢
    have HN := Lib.hid hn
    have HNB := Lib.hid hnb
    clear hn hnb hab
    go_enter Tryz.func36, Tryz.ntmps36
    go_wp2_with fail
    go_loopw [17] (fun x wr => EfRel w a b x wr) (fun x _ => n - (intOf x).toNat)
    case atStart => exact ⟨0, rfl, ⟨by omega, by simp, Below.refl _ _⟩⟩
    case round =>
      obtain ⟨i, rfl, HR⟩ := hrel
      obtain ⟨hi, heq, hbr⟩ := HR
      have HEQ := Lib.hid heq
      rw [HN.out] at hi
      clear heq
      by_cases hlt : i < n
      · obtain ⟨bb, o, cc, hv, _, hSb, hcell⟩ := HT.out.open_ (by have := HN.out; omega)
        obtain ⟨bb', o', cc', hv', _, hSb', hcell'⟩ := HT'.out.open_ (by have := HNB.out; omega)
        injection hv with hA _ hcc
        injection hv' with hA' _ hcc'
        subst hA
        subst hcc
        subst hA'
        subst hcc'
        obtain ⟨x, hx⟩ : ∃ x, a[i]? = some x := ⟨_, List.getElem?_eq_getElem (by have := HN.out; omega)⟩
        obtain ⟨y, hy⟩ : ∃ y, b[i]? = some y := ⟨_, List.getElem?_eq_getElem (by have := HNB.out; omega)⟩
        obtain ⟨xa, xk, hxt⟩ := hcell i x hx
        obtain ⟨ya, yk, hyt⟩ := hcell' i y hy
        have hb := hS bb hSb
        have hb' := hS' bb' hSb'
        have hzx := szL_at hx
        have hzy := szL_at hy
        obtain ⟨A1, c1, rfl, _, _⟩ := id hxt.at_
        obtain ⟨A2, c2, rfl, _⟩ := hxt.kids.shape
        obtain ⟨A3, c3, rfl, _, _⟩ := id hyt.at_
        obtain ⟨A4, c4, rfl, _⟩ := hyt.kids.shape
        have q0 : wr.cell? ⟨bb, o + i * 5, none⟩ = some (.int .i64 x.kind) := (hbr.cell (p := ⟨bb, o + i * 5, none⟩) hb).trans hxt.c0
        have q1 : wr.cell? ⟨bb, o + i * 5 + 1, none⟩ = some (.string x.name) := (hbr.cell (p := ⟨bb, o + i * 5 + 1, none⟩) hb).trans hxt.c1
        have q2 : wr.cell? ⟨bb, o + i * 5 + 2, none⟩ = some (.slice A1 x.attrs.length c1) := (hbr.cell (p := ⟨bb, o + i * 5 + 2, none⟩) hb).trans hxt.c2
        have q3 : wr.cell? ⟨bb, o + i * 5 + 3, none⟩ = some (.string x.text) := (hbr.cell (p := ⟨bb, o + i * 5 + 3, none⟩) hb).trans hxt.c3
        have q4 : wr.cell? ⟨bb, o + i * 5 + 4, none⟩ = some (.slice A2 x.kids.length c2) := (hbr.cell (p := ⟨bb, o + i * 5 + 4, none⟩) hb).trans hxt.c4
        have r0 : wr.cell? ⟨bb', o' + i * 5, none⟩ = some (.int .i64 y.kind) := (hbr.cell (p := ⟨bb', o' + i * 5, none⟩) hb').trans hyt.c0
        have r1 : wr.cell? ⟨bb', o' + i * 5 + 1, none⟩ = some (.string y.name) := (hbr.cell (p := ⟨bb', o' + i * 5 + 1, none⟩) hb').trans hyt.c1
        have r2 : wr.cell? ⟨bb', o' + i * 5 + 2, none⟩ = some (.slice A3 y.attrs.length c3) := (hbr.cell (p := ⟨bb', o' + i * 5 + 2, none⟩) hb').trans hyt.c2
        have r3 : wr.cell? ⟨bb', o' + i * 5 + 3, none⟩ = some (.string y.text) := (hbr.cell (p := ⟨bb', o' + i * 5 + 3, none⟩) hb').trans hyt.c3
        have r4 : wr.cell? ⟨bb', o' + i * 5 + 4, none⟩ = some (.slice A4 y.kids.length c4) := (hbr.cell (p := ⟨bb', o' + i * 5 + 4, none⟩) hb').trans hyt.c4
        have i1 : (i : Int) < (n : Int) := by omega
        have i2 : (0 : Int) ≤ (i : Int) := by omega
        have HX := Lib.hid hx
        have HY := Lib.hid hy
        have HBB := Lib.hid (fun (k1 k2 : Array Value) (t1 t2 : TypeId) => (show Below w.heap.size w ((wr.alloc (.cells k1 t1)).alloc (.cells k2 t2)) from (hbr.alloc hbr.size _).alloc (by have := hbr.size; simp; omega) _))
        have mm : bb' < wr.heap.size := Nat.lt_of_lt_of_le hb' hbr.size
        have mm2 : bb' ≠ wr.heap.size := by omega
        have HAL := Lib.hid (fun (W : World) (hW : Below w.heap.size w W) => alike_any x y S S' _ _ _ _ W (hxt.at_.keep (Kept.belowB hW hS)) (hyt.at_.keep (Kept.belowB hW hS')) (fun k h => Nat.lt_of_lt_of_le (hS k h) hW.size) (fun k h => Nat.lt_of_lt_of_le (hS' k h) hW.size) (by omega) (by omega) ⟨_, _, _, rfl⟩ ⟨_, _, _, rfl⟩
          (fun W' hW' => HIH.out i x y _ _ W' hx hy ((hxt.kids.keep (Kept.belowB hW hS)).keep (Kept.belowB hW' (fun k h => Nat.lt_of_lt_of_le (hS k h) hW.size))) ((hyt.kids.keep (Kept.belowB hW hS')).keep (Kept.belowB hW' (fun k h => Nat.lt_of_lt_of_le (hS' k h) hW.size))) (below_after hW hW')))
        have HNE := Lib.hid (fun (h : x ≠ y) => ne_at hx hy h)
        have HXY := Lib.hid (show sameN x y = true → x = y from fun h => by
          have h2 : sameL [x] [y] = true := by rw [sameL_cons, h]; rfl
          have h3 := (sameL_iff _ _).1 h2
          injection h3)
        have HXE := Lib.hid (show x = y → sameN x y = true from fun h => by
          have h2 : sameL [x] [y] = true := (sameL_iff _ _).2 (by rw [h])
          rw [sameL_cons, Bool.and_eq_true] at h2
          exact h2.1)
        obtain ⟨r, hr⟩ : ∃ r, sameN x y = r := ⟨_, rfl⟩
        rw [hr] at HAL HXY HXE
        have HI := Lib.hid hi
        clear hcell hcell' hx hy hxt hyt hr hzx hzy
        go_wp2_with fail
        refine (HAL.out _ (HBB.out _ _ _ _)).mono ?_
        rintro e w3 ⟨rfl, hb3⟩
        have hB3 := below_after (HBB.out _ _ _ _) hb3
        cases r with
        | true =>
          have HXQ := Lib.hid (HXY.out rfl)
          go_wp2_with fail
          go_roundw
          case rel => exact ⟨i + 1, by go_num, by have := HN.out; omega, take_same HEQ.out HX.out (by rw [HXQ.out]; exact HY.out), hB3⟩
          case measure => simp [intOf]; omega
        | false =>
          have HF := Lib.hid (HNE.out fun e => by have := HXE.out e; cases this)
          go_wp2_with fail
          go_ret
          rw [HF.out]
          exact ⟨rfl, hB3⟩
      · have hke : i = n := by omega
        have HF := Lib.hid (show sameL a b = true by
          rw [sameL_iff]
          have h1 := HEQ.out
          rwa [List.take_of_length_le (by have := HN.out; omega), List.take_of_length_le (by have := HNB.out; omega)] at h1)
        go_wp2_with fail
        go_ret
        rw [HF.out]
        exact ⟨rfl, hbr⟩
  · have B0 : ((a.length : Int) != (b.length : Int)) = true := by simp; omega
    have HF := Lib.hid (show sameL a b = false from sameL_ne fun e => hab (by rw [e]))
    clear hab
    go_enter Tryz.func36, Tryz.ntmps36
    go_wp2_with fail
    go_ret
    rw [HF.out]
    exact ⟨rfl, Below.refl _ _⟩

set_option maxRecDepth 100000 in
theorem sameD_any (a : List Nd) : ∀ (b : List Nd) (S S' : Nat → Prop) (v v' : Value) (w : World), Tree S w a v → Tree S' w b v' → (∀ k, S k → k < w.heap.size) → (∀ k, S' k → k < w.heap.size) → szL a ≤ 100000000 → szL b ≤ 100000000 →
    Calls Tryz.prog 21 #[v, v'] w fun e w' => e = .returned (.bool (sameL a b)) ∧ Below w.heap.size w w' := by
  induction a using nd_ind with
  | h a ih =>
  intro b S S' v v' w hT hT' hS hS' hsz hsz'
  have HF := Lib.hid (equalF_any a b S S' v v' w hT hT' hS hS' hsz hsz' (fun i x y xk yk W hx hy hxk hyk hW => ih i x hx y.kids S S' xk yk W hxk hyk (fun k h => Nat.lt_of_lt_of_le (hS k h) hW.size) (fun k h => Nat.lt_of_lt_of_le (hS' k h) hW.size)
    (by have := szL_kids hx; omega) (by have := szL_kids hy; omega)))
  obtain ⟨r, hr⟩ : ∃ r, sameL a b = r := ⟨_, rfl⟩
  rw [hr] at HF
  rw [hr]
  obtain ⟨A, c, rfl, hc⟩ := hT.shape
  obtain ⟨A', c', rfl, hc'⟩ := hT'.shape
  obtain ⟨n, hn⟩ : ∃ n, a.length = n := ⟨_, rfl⟩
  obtain ⟨n', hn'⟩ : ∃ n, b.length = n := ⟨_, rfl⟩
  rw [hn, hn'] at HF
  rw [hn, hn']
  clear hT hT' ih hr hn hn' hc hc'
  go_enter Tryz.func21, Tryz.ntmps21
  go_wp2_with fail
  refine HF.out.mono ?_
  rintro e w1 ⟨rfl, hb1⟩
  go_wp2_with fail
  go_ret
  exact ⟨rfl, hb1⟩

end Go.Proofs.YthmnnalamaponaaGreat
