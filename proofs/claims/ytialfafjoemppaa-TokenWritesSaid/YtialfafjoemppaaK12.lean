/- Parts of the proof, in build order: TkN TkO TkP TkQ TkR. -/
import Derived.Test.YtialfafjoemppaaK11
import Derived.Test.YtialfafjoemppaaK03

/- Part TkN. -/
namespace Go.Proofs.Ytialfafjoemppaa
open Go.RowKit
set_option linter.unusedVariables false

/-- What the loop has made: the token, its attributes, the set of their names. -/
structure BegM (w2 wr : World) (nm : ByteArray) (acc : List (ByteArray × ByteArray)) (va : Value) : Prop where
  t : wr.heap[w2.heap.size]? = some (.cells #[.int .i64 1, .string nm, va, .string ⟨#[]⟩] 31 (0, 0))
  own : wr.ownsRow (w2.heap.size + 2) 40 2 va acc.length (acells acc)
  seen : Seen wr (w2.heap.size + 1) acc.length (metB acc)
  bel : Below w2.heap.size w2 wr
theorem BegM.later {w2 wr W : World} {nm : ByteArray} {acc : List (ByteArray × ByteArray)} {va : Value} (h : BegM w2 wr nm acc va) (hb : Below wr.heap.size wr W) : BegM w2 W nm acc va :=
  ⟨box_on h.t hb, own_below h.own hb, h.seen.below hb, below_after h.bel hb⟩
theorem own_attK {W : World} {base n c : Nat} {A : Option Addr} {al : List (ByteArray × ByteArray)} (h : W.ownsRow base 40 2 (.slice A n c) n (acells al)) (hn : n = al.length) (hc : n ≤ c) : AttrsAt (fun b => base ≤ b ∧ b < W.heap.size) W al (.slice A n c) := by
  subst hn
  exact ⟨A, c, rfl, hc, (Cells.own h).mono fun b hb => h.lt b hb⟩
theorem own_set4 {W : World} {base k : Nat} {v : Value} {n : Nat} {xs : List Value} {e : TypeId} (h : W.ownsRow base e 2 v n xs) (hk : k < base) (a b c d : Value) : ((((W.setCell ⟨k, 0, none⟩ a).setCell ⟨k, 1, none⟩ b).setCell ⟨k, 2, none⟩ c).setCell ⟨k, 3, none⟩ d).ownsRow base e 2 v n xs :=
  ownsRow_setCell_below (ownsRow_setCell_below (ownsRow_setCell_below (ownsRow_setCell_below h hk _) hk _) hk _) hk _
/-- A store into another block of the call's own. -/
theorem BegM.set {w2 W : World} {nm : ByteArray} {acc : List (ByteArray × ByteArray)} {va : Value} (h : BegM w2 W nm acc va) {k : Nat} (hk : w2.heap.size + 2 ≤ k) (hv : va.ownBlock ≠ some k) (i : Nat) (x : Value) : BegM w2 (W.setCell ⟨k, i, none⟩ x) nm acc va :=
  ⟨(heap_setCell_other W ⟨k, i, none⟩ w2.heap.size x (by show w2.heap.size ≠ k; omega)).trans h.t, ownsRow_setCell_other h.own hv x, h.seen.kept (heap_setCell_other W ⟨k, i, none⟩ (w2.heap.size + 1) x (by show w2.heap.size + 1 ≠ k; omega)), h.bel.setCell (p := ⟨k, i, none⟩) (by show w2.heap.size ≤ k; omega) x⟩
/-- One name more. -/
theorem BegM.put {w2 W W' : World} {nm : ByteArray} {acc : List (ByteArray × ByteArray)} {va : Value} (h : BegM w2 W nm acc va) (hg : W.grownBy W' (some (w2.heap.size + 1))) :
    W'.heap[w2.heap.size]? = some (.cells #[.int .i64 1, .string nm, va, .string ⟨#[]⟩] 31 (0, 0)) ∧ W'.ownsRow (w2.heap.size + 2) 40 2 va acc.length (acells acc) ∧ Below w2.heap.size w2 W' := by
  refine ⟨(hg.block _ (Array.getElem?_eq_some_iff.1 h.t).1 (by simp)).trans h.t, h.own.kept hg ?_, h.bel.grown hg h.bel.size (fun k hk => by injection hk with hk; omega)⟩
  cases hv : va.ownBlock with
  | none => exact .inl rfl
  | some g =>
    refine .inr fun e => ?_
    injection e with e
    have := (h.own.lt g hv).1
    omega
/-- One attribute more. -/
theorem begM_more {w2 W W' : World} {nm : ByteArray} {acc : List (ByteArray × ByteArray)} {va va' : Value} {o : Obj} {a : ByteArray × ByteArray} {m : Nat}
    (ht : W.heap[w2.heap.size]? = some (.cells #[.int .i64 1, .string nm, va, .string ⟨#[]⟩] 31 (0, 0))) (hown : W.ownsRow (w2.heap.size + 2) 40 2 va acc.length (acells acc)) (hb : Below w2.heap.size w2 W)
    (hs : Seen W (w2.heap.size + 1) m (metB (acc ++ [a]))) (hm : m = (acc ++ [a]).length) (hg : (W.alloc o).grownBy W' va.ownBlock) (hown' : W'.ownsRow (w2.heap.size + 2) 40 2 va' (acc ++ [a]).length (acells (acc ++ [a]))) :
    BegM w2 (W'.setCell ⟨w2.heap.size, 2, none⟩ va') nm (acc ++ [a]) va' := by
  have hlt := (Array.getElem?_eq_some_iff.1 ht).1
  have hls := hs.lt
  have ob := hown.lt
  have e0 : W'.heap[w2.heap.size]? = some (.cells #[.int .i64 1, .string nm, va, .string ⟨#[]⟩] 31 (0, 0)) :=
    (hg.block _ (by simp; omega) (fun e => by have := (ob _ e.symm).1; omega)).trans ((Below.heap_alloc W o _ hlt).trans ht)
  have e1 : W'.heap[w2.heap.size + 1]? = W.heap[w2.heap.size + 1]? := (hg.block _ (by simp; omega) (fun e => by have := (ob _ e.symm).1; omega)).trans (Below.heap_alloc W o _ hls)
  refine ⟨?_, ?_, ?_, ?_⟩
  · have := heap_setCell_same W' w2.heap.size 2 _ _ va' e0
    simpa using this
  · exact ownsRow_setCell_below hown' (a := ⟨w2.heap.size, 2, none⟩) (by show w2.heap.size < w2.heap.size + 2; omega) _
  · subst hm
    exact (hs.kept e1).kept (heap_setCell_other W' ⟨w2.heap.size, 2, none⟩ (w2.heap.size + 1) va' (by show w2.heap.size + 1 ≠ w2.heap.size; omega))
  · exact ((hb.alloc hb.size o).grown hg (by have := hb.size; simp; omega) (fun k hk => by have := (ob _ hk).1; omega)).setCell (p := ⟨w2.heap.size, 2, none⟩) (Nat.le_refl _) _

theorem begT_more {w2 W W' : World} {nm : ByteArray} {xs : List Value} {n : Nat} {va : Value} {o : Obj}
    (ht : W.heap[w2.heap.size]? = some (.cells #[.int .i64 1, .string nm, va, .string ⟨#[]⟩] 31 (0, 0))) (hown : W.ownsRow (w2.heap.size + 2) 40 2 va n xs) (hg : (W.alloc o).grownBy W' va.ownBlock) :
    W'.cell? ⟨w2.heap.size, 2, none⟩ = some va ∧ W'.frozen? ⟨w2.heap.size, 2, none⟩ = false := by
  have hlt := (Array.getElem?_eq_some_iff.1 ht).1
  have e0 : W'.heap[w2.heap.size]? = some (.cells #[.int .i64 1, .string nm, va, .string ⟨#[]⟩] 31 (0, 0)) :=
    (hg.block _ (by simp; omega) (fun e => by have := (hown.lt _ e.symm).1; omega)).trans ((Below.heap_alloc W o _ hlt).trans ht)
  exact ⟨cell_at e0 2, froz_at e0 2⟩

/-- A name is put into the set. -/
theorem wpList_seen {w : World} {ops : Array Oper} {rest : List Oper} {o : Oper} {a : Act} {Q : Exit → Act → World → Prop}
    (hg : o.guard = none) (m x v : Operand) (hop : o.op = Op.mapUpdate 82 m x v)
    (b n : Nat) (f : List UInt8 → Bool) (h : Seen w b n f) (hn : n ≤ 2000000) (hm : a.eval m = .map (some b)) (k : ByteArray) (hx : a.eval x = .string k) (hv : a.eval v = .agg #[]) (hk : k.size ≤ maxLen)
    (hK : ∀ w', Seen w' b (n + 1) (fun l => decide (l = k.data.toList) || f l) → w.grownBy w' (some b) → wpList Try.prog ops Q rest (a.put o.dst undef) w') :
    wpList Try.prog ops Q (o :: rest) a w := by
  refine wpList_plain hg fun K' hK' => ?_
  obtain ⟨w', hrun, r1, r2⟩ := h.store hn k hk
  unfold Oper.wp
  simp [execOp, hop, hm, hx, hv, hrun, Result.andThen]
  exact hK' _ _ (hK w' r1 r2)

structure BegL (l L0 : List UInt8) (acc : List (ByteArray × ByteArray)) (left : ByteArray) : Prop where
  suf : left.data.toList <:+ l
  is : attsOf acc left.data.toList = attsOf [] L0
  len : acc.length + left.size ≤ l.length

theorem BegL.step {l L0 r : List UInt8} {c : UInt8} {acc : List (ByteArray × ByteArray)} {left left3 nm v : ByteArray} (h : BegL l L0 acc left) (hsuf : c :: r <:+ l) (his : attsOf acc (c :: r) = attsOf [] L0) (hst : stopC c = false)
    (h3 : left3.data.toList = ((attOf (c :: r)).map (·.2)).getD []) (hx : ∀ x, attOf (c :: r) = some x → (nm, v) = x.1) (hlen : (c :: r).length ≤ left.size) : BegL l L0 (addA acc (nm, v)) left3 ∧ left3.size < left.size := by
  have hz : left3.size = left3.data.toList.length := str_list _
  have ha := addA_len acc (nm, v)
  have hl := h.len
  cases hat : attOf (c :: r) with
  | none =>
    rw [hat] at h3
    have h3' : left3.data.toList = [] := h3
    rw [h3', List.length_nil] at hz
    rw [List.length_cons] at hlen
    refine ⟨⟨by rw [h3']; exact List.nil_suffix, ?_, by omega⟩, by omega⟩
    rw [h3', attsOf_nil, ← his, attsOf_none acc hst hat]
  | some x =>
    rw [hat] at h3
    have h3' : left3.data.toList = x.2 := h3
    have hxl := attOf_len hst hat
    rw [h3'] at hz
    refine ⟨⟨by rw [h3']; exact (attOf_suf hat).trans hsuf, ?_, by omega⟩, by omega⟩
    rw [h3', ← his, attsOf_some acc hst hat, hx x hat]

set_option maxHeartbeats 4000000 in
set_option maxRecDepth 100000 in
theorem tkbegin_any (s : ByteArray) (a0 : UInt8) (L : List UInt8) (hs : s.data.toList = a0 :: L) (w : World) (hm : s.size ≤ 1000000) :
    Calls Try.prog 41 #[.string s] w (TagRet ((attsOf [] (L.dropWhile tagC)).map fun x => tkB ((L.takeWhile tagC).map lowB) x.1) (((attsOf [] (L.dropWhile tagC)).map (·.2)).getD []) s.data.toList w) := by
  obtain ⟨l, hl⟩ : ∃ l, s.data.toList = l := ⟨_, rfl⟩
  have hsz : s.size = l.length := by rw [← hl]; simp
  have hll : l.length = L.length + 1 := by rw [← hl, hs]; rfl
  have hex : (s.extract 1 s.size).data.toList = L := by rw [drop_extract, hs]; rfl
  have HLL := Lib.hid (show l = a0 :: L by rw [← hl, hs])
  rw [hl]
  have H1 := Lib.hid (fun W => part_any (s.extract 1 s.size) 60 #[] tagZ tagC false W (asks_named W) bytely_named (by rw [ByteArray.size_extract]; omega))
  have HSL := Lib.hid hl
  have HSZ := Lib.hid hsz
  have HEX := Lib.hid hex
  have HLZ := Lib.hid hll
  have h1' : (1 : Int) ≤ (s.size : Int) := by omega
  have hmm := @run_makeMap Try.prog
  obtain ⟨L0, hL0⟩ : ∃ L0, L.dropWhile tagC = L0 := ⟨_, rfl⟩
  rw [hL0]
  have HL0E := Lib.hid hL0
  clear hl hsz hex hs hll hL0
  go_enter Try.func41, Try.ntmps41
  go_wp2_with fail
  refine (H1.out _).mono ?_
  rintro e w1 ⟨a, b, rfl, ha, hb, hb1⟩
  rw [HEX.out] at ha hb
  have hrx1 := box_on (box_here w #[.int .i64 0, .string ⟨#[]⟩, .slice none 0 0, .string ⟨#[]⟩] 31) hb1
  have hB1 := below_after (below_new w _) hb1
  have haz : a.size ≤ 1000000 := by rw [str_list, ha]; have := takeW_len tagC L; have := HSZ.out; have := HLZ.out; omega
  have HA := Lib.hid ha
  have HB := Lib.hid hb
  clear ha hb hb1
  go_wp2_with fail
  refine (fold_any a _ (by unfold maxLen; omega)).mono ?_
  rintro e w2 ⟨rfl, hb2⟩
  rw [HA.out]
  obtain ⟨nm, hnm, hnml, hnmz⟩ := str_of ((L.takeWhile tagC).map lowB)
  rw [hnm]
  have hrx2 := box_on hrx1 hb2
  have hB2 := below_after hB1 hb2
  have HNM := Lib.hid (show nm = tB ((L.takeWhile tagC).map lowB) from hnm.symm)
  clear hnm hnml hnmz hrx1 hB1 hb2 H1
  go_wp2_with fail
  have hw2w : w.heap.size < w2.heap.size := (Array.getElem?_eq_some_iff.1 hrx2).1
  have HB2 := Lib.hid hB2
  have HRX2 := Lib.hid hrx2
  have HL0 := Lib.hid (show b.data.toList <:+ l by rw [HB.out, HLL.out]; exact (List.dropWhile_suffix _).trans (List.suffix_cons _ _))
  rw [HL0E.out] at HB
  have hl6 : l.length ≤ 1000000 := by rw [← HSZ.out]; exact hm
  have H2 := Lib.hid (fun (x : ByteArray) (hx : x.size ≤ 1000000) (w1 : World) (b : Nat) (hb : b < w1.heap.size) (hc : w1.cell? ⟨b, 0, none⟩ = some (.string ⟨#[9, 10, 12, 32, 47, 61]⟩)) => part_among x ⟨#[9, 10, 12, 32, 47, 61]⟩ b w1 hb hc rfl (by decide) hx)
  simp only [skip_set] at H2
  clear hB2 hrx2 hmm
  go_loopw [5] (fun x wr => ∃ (left : ByteArray) (acc : List (ByteArray × ByteArray)) (va : Value), x = .string left ∧ BegL l L0 acc left ∧ BegM w2 wr nm acc va) (fun x _ => match x with | .string t => t.size | _ => 0)
  case atStart =>
    refine ⟨b, [], .slice none 0 0, rfl, ⟨HL0.out, by rw [HB.out], by rw [str_list]; have := HL0.out.length_le; simpa using this⟩, ?_, World.ownsRow_nil _ _ _ _, ?_, ?_⟩
    · exact box_on (box_here w2 _ _) (below_new _ _)
    · have e : (w2.alloc (.cells #[.int .i64 1, .string nm, .slice none 0 0, .string ⟨#[]⟩] 31)).heap.size = w2.heap.size + 1 := by simp
      have h := Seen.made (w2.alloc (.cells #[.int .i64 1, .string nm, .slice none 0 0, .string ⟨#[]⟩] 31))
      rw [e] at h
      exact h.congr fun l => rfl
    · exact below_after (below_new w2 _) (below_new _ _)
  case round =>
    obtain ⟨left, acc, va, rfl, HL, HM⟩ := hrel
    have HLL1 := Lib.hid HL
    have hlz : left.size ≤ 1000000 := by have := HL.len; omega
    have hacc : acc.length ≤ 1000000 := by have := HL.len; omega
    clear HL
    go_wp2_with fail
    refine (among_any _ _).mono ?_
    rintro e w3 ⟨b3, rfl, hbl3, hbc3, hb3⟩
    have HM3 := HM.later hb3
    have H3 := Lib.hid (H2.out left hlz w3 b3 hbl3 hbc3)
    clear HM hb3 hbl3 hbc3
    go_wp2_with fail
    refine H3.out.mono ?_
    rintro e w4 ⟨_, left2, rfl, _, hl2, hb4⟩
    have HM4 := HM3.later hb4
    have hbe := eqs left2 []
    rw [hl2] at hbe
    have hl2z : left2.size = (left.data.toList.dropWhile skipC).length := by rw [str_list, hl2]
    have hsuf : left.data.toList.dropWhile skipC <:+ l := (List.dropWhile_suffix _).trans HLL1.out.suf
    have his : attsOf acc (left.data.toList.dropWhile skipC) = attsOf [] L0 := by rw [atts_skip, HLL1.out.is]
    have hll2 : (left.data.toList.dropWhile skipC).length ≤ left.size := by rw [str_list]; exact dropW_len _ _
    have HX2 := Lib.hid hl2
    have hhd := fun (c : UInt8) (r : List UInt8) (h : left.data.toList.dropWhile skipC = c :: r) (hc : c ≠ 62) => skip_head h hc
    obtain ⟨D, hD⟩ : ∃ D, left.data.toList.dropWhile skipC = D := ⟨_, rfl⟩
    rw [hD] at hbe hl2z hsuf his hll2 HX2
    rw [hD] at hhd
    have HB4 := Lib.hid (below_after HB2.out (HM4.bel.mono (Nat.le_refl _)))
    have HRX4 := Lib.hid ((HM4.bel.block _ hw2w).trans HRX2.out)
    clear hl2 hb4 HM3 hD H3
    cases D with
    | nil =>
      have B0 : (left2.toList == []) = true := by rw [hbe]; rfl
      rw [attsOf_nil] at his
      have HIS := Lib.hid his
      have d0 : w4.cell? ⟨w.heap.size, 0, none⟩ = some (.int .i64 0) := cell_at HRX4.out 0
      have d1 : w4.cell? ⟨w.heap.size, 1, none⟩ = some (.string ⟨#[]⟩) := cell_at HRX4.out 1
      have d2 : w4.cell? ⟨w.heap.size, 2, none⟩ = some (.slice none 0 0) := cell_at HRX4.out 2
      have d3 : w4.cell? ⟨w.heap.size, 3, none⟩ = some (.string ⟨#[]⟩) := cell_at HRX4.out 3
      have f0 := froz_at HRX4.out 0
      have f1 := froz_at HRX4.out 1
      have f2 := froz_at HRX4.out 2
      have f3 := froz_at HRX4.out 3
      clear hbe hl2z hsuf his hll2 hhd HM4
      go_wp2_with fail
      refine bodyPost_ret (v := .tuple #[.agg #[.int .i64 0, .string ⟨#[]⟩, .slice none 0 0, .string ⟨#[]⟩], .int .i64 s.size]) ?_ rfl ?_
      · simp [results, Try.f41, go_sem, d0, d1, d2, d3]
      · rw [← HIS.out]
        exact ⟨.slice none 0 0, s.size, rfl, by rw [HSZ.out]; exact Nat.le_refl _, List.drop_eq_nil_of_le (by rw [HSZ.out]; exact Nat.le_refl _), AttrsAt.nil _ _, set4 HB4.out _ _ _ _⟩
    | cons c r =>
      have B0 : (left2.toList == []) = false := by rw [hbe]; rfl
      have hl2p : 0 < left2.size := by rw [hl2z]; simp
      have g0 : ((left2[0]'hl2p).toNat : Int) = c.toNat := by
        have e := starts_at0 HX2.out 0 hl2p
        injection e with e
        rw [e]
      obtain ⟨A9, c9, rfl, hc9⟩ := own_size HM4.own
      have t0 : w4.cell? ⟨w2.heap.size, 0, none⟩ = some (.int .i64 1) := cell_at HM4.t 0
      have t1 : w4.cell? ⟨w2.heap.size, 1, none⟩ = some (.string nm) := cell_at HM4.t 1
      have t2 : w4.cell? ⟨w2.heap.size, 2, none⟩ = some (.slice A9 acc.length c9) := cell_at HM4.t 2
      have t3 : w4.cell? ⟨w2.heap.size, 3, none⟩ = some (.string ⟨#[]⟩) := cell_at HM4.t 3
      by_cases h62 : c = 62
      · subst h62
        have g62 : ((left2[0]'hl2p).toNat : Int) = 62 := g0
        obtain ⟨m, hm1, hm2, hm3⟩ := suf_drop hsuf
        rw [attsOf_end] at his
        have HIS := Lib.hid his
        have hsl : left2.size ≤ s.size := by have := HSZ.out; omega
        have hmz : s.size - left2.size = m := by
          have h1 := HSZ.out
          have h2 : left2.size = l.length - m := by rw [hl2z, hm3]
          omega
        have hw1 : IntKind.i64.wrap ((s.size : Int) - (left2.size : Int)) = (m : Int) := wrapI (by omega) (by omega)
        have hw2 : wrap64 ((s.size : Int) - (left2.size : Int)) = (m : Int) := wrap6 (by omega) (by omega)
        have hw3 : IntKind.i64.wrap ((m : Int) + 1) = ((m + 1 : Nat) : Int) := wrapI (by omega) (by omega)
        have HMD := Lib.hid hm2
        have hml : m + 1 ≤ l.length := by
          have := congrArg List.length hm2
          rw [List.length_drop, List.length_cons] at this
          omega
        have d0 : w4.cell? ⟨w.heap.size, 0, none⟩ = some (.int .i64 0) := cell_at HRX4.out 0
        have d1 : w4.cell? ⟨w.heap.size, 1, none⟩ = some (.string ⟨#[]⟩) := cell_at HRX4.out 1
        have d2 : w4.cell? ⟨w.heap.size, 2, none⟩ = some (.slice none 0 0) := cell_at HRX4.out 2
        have d3 : w4.cell? ⟨w.heap.size, 3, none⟩ = some (.string ⟨#[]⟩) := cell_at HRX4.out 3
        have f0 := froz_at HRX4.out 0
        have f1 := froz_at HRX4.out 1
        have f2 := froz_at HRX4.out 2
        have f3 := froz_at HRX4.out 3
        have HOWN := Lib.hid HM4.own
        clear hbe hl2z hsuf his hll2 hhd HM4 g0 hm1 hm2 hm3 hmz
        go_wp2_with fail
        refine bodyPost_ret (v := .tuple #[.agg #[.int .i64 1, .string nm, .slice A9 acc.length c9, .string ⟨#[]⟩], .int .i64 ((m : Int) + 1)]) ?_ rfl ?_
        · simp [results, Try.f41, go_sem, d0, d1, d2, d3]
        · rw [← HIS.out]
          refine ⟨.slice A9 acc.length c9, m + 1, ?_, hml, ?_, ?_, set4 HB4.out _ _ _ _⟩
          · rw [HNM.out]
            rfl
          · show l.drop (m + 1) = r
            rw [← List.drop_drop, ← HMD.out]
            rfl
          · have := own_attK (own_set4 HOWN.out (k := w.heap.size) (by omega) (.int .i64 1) (.string nm) (.slice A9 acc.length c9) (.string ⟨#[]⟩)) rfl hc9
            exact this.mono fun b hb => ⟨by omega, hb.2⟩
      · have hst := hhd c r rfl h62
        have h62i : ((c.toNat : Int) == 62) = false := by
          rw [beq_eq_false_iff_ne]
          intro e
          exact h62 (UInt8.toNat_inj.1 (show c.toNat = 62 by omega))
        have hl2z6 : left2.size ≤ 1000000 := by omega
        have HATT := Lib.hid (fun W => tkattr_any left2 W hl2z6)
        have HOV := Lib.hid (show (Value.slice A9 acc.length c9).ownBlock ≠ some w4.heap.size from fun e => by have := (HM4.own.lt _ e).2; omega)
        have HA2 := Lib.hid (show w2.heap.size + 2 ≤ w4.heap.size from HM4.seen.lt)
        have HM5 := HM4.later (below_new w4 (.cells #[.string ⟨#[]⟩, .string ⟨#[]⟩] 40))
        clear hbe HM4 t0 t1 t2 t3
        go_wp2_with fail
        refine (HATT.out _).mono ?_
        rintro e w5 ⟨nm2, v2, left3, rfl, hl3, hx3, hnz3, hb5⟩
        rw [HX2.out] at hl3 hx3 hnz3
        have HM6 := HM5.later hb5
        have hax5 := box_on (box_here w4 #[.string ⟨#[]⟩, .string ⟨#[]⟩] 40) hb5
        have a0 : w5.cell? ⟨w4.heap.size, 0, none⟩ = some (.string ⟨#[]⟩) := cell_at hax5 0
        have a1 : w5.cell? ⟨w4.heap.size, 1, none⟩ = some (.string ⟨#[]⟩) := cell_at hax5 1
        have fa0 := froz_at hax5 0
        have fa1 := froz_at hax5 1
        have hA2 : w2.heap.size + 2 ≤ w4.heap.size := HA2.out
        have hM7 := (HM6.set hA2 HOV.out 0 (.string nm2)).set hA2 HOV.out 1 (.string v2)
        have hlk := hM7.seen.look nm2 (by have := hnz3; unfold maxLen; simp only [List.length_cons] at this hl2z; omega)
        have hbx7 : ((w5.setCell ⟨w4.heap.size, 0, none⟩ (.string nm2)).setCell ⟨w4.heap.size, 1, none⟩ (.string v2)).heap[w4.heap.size]? = some (.cells #[.string nm2, .string v2] 40 (0, 0)) := by
          have h1 := heap_setCell_same w5 w4.heap.size 0 _ _ (.string nm2) hax5
          have h2 := heap_setCell_same _ w4.heap.size 1 _ _ (.string v2) h1
          simpa using h2
        have hstep := HLL1.out.step (nm := nm2) (v := v2) hsuf his hst hl3 hx3 hll2
        have HST := Lib.hid hstep
        have HM7 := Lib.hid hM7
        have HBX7 := Lib.hid hbx7
        have hnz : nm2.size ≤ maxLen := by have := hnz3; unfold maxLen; simp only [List.length_cons] at this hl2z; omega
        obtain ⟨q, hq⟩ : ∃ q, metB acc nm2.data.toList = q := ⟨_, rfl⟩
        rw [hq] at hlk
        have HQ := Lib.hid hq
        clear hM7 hbx7 hstep hax5 hb5 hl3 hx3 hnz3 HM5 HM6 hq hl2z hsuf his hll2 hhd hst
        cases q with
        | true =>
          go_wp2_with fail
          go_roundw
          case rel =>
            refine ⟨left3, acc, .slice A9 acc.length c9, rfl, ?_, HM7.out.later (below_new _ _)⟩
            have := HST.out.1
            rw [addA_met HQ.out] at this
            exact this
          case measure => exact HST.out.2
        | false =>
          have hm8 := HM7.out.later (below_new _ (.cells #[] 86))
          have hbx8 := box_on HBX7.out (below_new _ (.cells #[] 86))
          have b0 := (cell_at hbx8 0).trans (show _ = some (Value.string nm2) from rfl)
          have b1 := (cell_at hbx8 1).trans (show _ = some (Value.string v2) from rfl)
          have t2 := (cell_at hm8.t 2).trans (show _ = some (Value.slice A9 acc.length c9) from rfl)
          have HM8 := Lib.hid hm8
          have HBX8 := Lib.hid hbx8
          have HPUT := Lib.hid (fun W' hg => hm8.put (W' := W') hg)
          clear hm8 hbx8
          obtain ⟨i0, hi, hz0, hz1, hz2⟩ := info_parts info_attr
          go_wp2_with (first
            | (at_mapUpdate; refine wpList_seen rfl _ _ _ rfl (w2.heap.size + 1) acc.length (metB acc) HM8.out.seen (by omega) rfl nm2 rfl rfl hnz ?_; intro w9 hsn9 hg9; obtain ⟨ht9, ho9, hb9⟩ := HPUT.out w9 hg9; have hbx9 := (hg9.block _ (Array.getElem?_eq_some_iff.1 HBX8.out).1 (by intro e; injection e with e; omega)).trans HBX8.out; have x0 := (cell_at hbx9 0).trans (show _ = some (Value.string nm2) from rfl); have x1 := (cell_at hbx9 1).trans (show _ = some (Value.string v2) from rfl); have y2 := (cell_at ht9 2).trans (show _ = some (Value.slice A9 acc.length c9) from rfl); have yf := froz_at ht9 2; have HT9 := Lib.hid ht9; have HSN9 := Lib.hid hsn9; have HO9 := Lib.hid ho9; have HB9 := Lib.hid hb9; clear ht9 hsn9 ho9 hb9 hg9 hbx9)
            | (at_builtin; refine wpList_append_own _ rfl _ _ 26 rfl (w2.heap.size + 2) 40 i0 _ 2 32 Try.underlying26 hi hz0 hz1 hz2 rfl (by decide) _ _ _ rfl (HO9.out.alloc _) ⟨w9.heap.size, 0, none⟩ 1 1 (acells [(nm2, v2)]) rfl rfl (new_two w9 _ _ _) (acells_one _) (by unfold maxLen; omega) (by omega) (by have := HSN9.out.lt; simp; omega) ?_; intro v' w10 hown' hgrow _; obtain ⟨A8, c8, rfl, _⟩ := own_size hown'; obtain ⟨z2, zf⟩ := begT_more HT9.out HO9.out hgrow; have HOW := Lib.hid hown'; have HGR := Lib.hid hgrow; clear hown' hgrow))
          go_roundw
          case rel =>
            refine ⟨left3, acc ++ [(nm2, v2)], .slice A8 (acc.length + 1) c8, rfl, ?_, ?_⟩
            · have := HST.out.1
              rw [addK_new HQ.out] at this
              exact this
            · refine begM_more HT9.out HO9.out HB9.out (HSN9.out.congr fun k => metB_snoc acc (nm2, v2) k) (by simp) HGR.out ?_
              rw [acells_append, List.length_append]
              exact HOW.out
          case measure => exact HST.out.2

end Go.Proofs.Ytialfafjoemppaa

/- Part TkO. -/
namespace Go.Proofs.Ytialfafjoemppaa
open Go.RowKit
set_option linter.unusedVariables false

theorem tkv_agg (t : Tk) (va : Value) : tkv t va = .agg #[.int .i64 t.kind, .string t.name, va, .string t.text] := rfl
theorem cut_suf (l sep : List UInt8) : (Lib.cut l sep).2.1 <:+ l := by
  unfold Lib.cut
  split
  · exact List.drop_suffix _ _
  · exact List.nil_suffix
theorem drop_suf {l L : List UInt8} (h : L <:+ l) : l.drop (l.length - L.length) = L := by
  obtain ⟨t, rfl⟩ := h
  simp
theorem remark_tag (s mk : ByteArray) (k : Nat) (w : World) (hk : k ≤ s.size) (hm : s.size ≤ 1000000) (HG : Glob w) :
    Calls Try.prog 44 #[.string s, .int .i64 k, .string mk] w
      (TagRet (some (tkR (Lib.cut (s.data.toList.drop k) mk.data.toList).1)) (Lib.cut (s.data.toList.drop k) mk.data.toList).2.1 s.data.toList w) := by
  refine (remark_any s mk k w hk hm HG).mono ?_
  rintro e w' ⟨rfl, hb⟩
  have hsz : s.size = s.data.toList.length := str_list s
  refine ⟨.slice none 0 0, _, rfl, by rw [hsz]; omega, ?_, AttrsAt.nil _ _, hb⟩
  rw [hsz]
  exact drop_suf ((cut_suf _ _).trans (List.drop_suffix _ _))

theorem kept_set4 {S : Nat → Prop} {W : World} {k : Nat} (hS : ∀ b, S b → b ≠ k) (a b c d : Value) : Kept S W ((((W.setCell ⟨k, 0, none⟩ a).setCell ⟨k, 1, none⟩ b).setCell ⟨k, 2, none⟩ c).setCell ⟨k, 3, none⟩ d) := by
  intro g hg j
  have hne := hS g hg
  have one : ∀ (W : World) (i : Nat) (x : Value), (W.setCell ⟨k, i, none⟩ x).cell? ⟨g, j, none⟩ = W.cell? ⟨g, j, none⟩ := fun W i x => World.cell?_setCell_other _ _ _ _ (by intro e; injection e with e; exact hne e.symm)
  rw [one, one, one, one]
theorem tag_fin {w w1 w2 : World} {o : Option Tk} {rest l : List UInt8} {va : Value} {n : Nat} (hb1 : Below w.heap.size w w1) (hlt : w.heap.size < w1.heap.size) (hn : n ≤ l.length) (hd : l.drop n = rest)
    (hat : AttrsAt (fun b => w1.heap.size ≤ b ∧ b < w2.heap.size) w2 (o.getD tk0).attrs va) (hb2 : Below w1.heap.size w1 w2) (a b c d : Value) :
    TagRet o rest l w (.returned (.tuple #[tkv (o.getD tk0) va, .int .i64 n])) ((((w2.setCell ⟨w.heap.size, 0, none⟩ a).setCell ⟨w.heap.size, 1, none⟩ b).setCell ⟨w.heap.size, 2, none⟩ c).setCell ⟨w.heap.size, 3, none⟩ d) := by
  refine ⟨va, n, rfl, hn, hd, ?_, set4 (below_after hb1 hb2) _ _ _ _⟩
  exact (hat.keep (kept_set4 (k := w.heap.size) (fun b hb => by omega) a b c d)).mono fun b hb => ⟨by omega, by simpa using hb.2⟩

set_option maxHeartbeats 2000000 in
set_option maxRecDepth 100000 in
/-- What no tag begins. -/
theorem tag_none (s : ByteArray) (w : World) (hm : s.size ≤ 1000000) (hs : startsB s.data.toList = false) :
    Calls Try.prog 22 #[.string s] w fun e w' => e = .returned (.tuple #[tkv tk0 (.slice none 0 0), .int .i64 0]) ∧ Below w.heap.size w w' := by
  have h := fun W => starts_any s W (by unfold maxLen; omega)
  rw [hs] at h
  have H := Lib.hid h
  clear h hs
  go_enter Try.func22, Try.ntmps22
  go_wp2_with fail
  refine (H.out _).mono ?_
  rintro e w1 ⟨rfl, rfl⟩
  go_wp2_with fail
  refine bodyPost_ret (v := .tuple #[.agg #[.int .i64 0, .string ⟨#[]⟩, .slice none 0 0, .string ⟨#[]⟩], .int .i64 0]) ?_ rfl ⟨rfl, below_new _ _⟩
  simp [results, Try.f22, go_sem]

/-- The second and the third byte. -/
theorem byte_at1 {s : ByteArray} {l : List UInt8} (hl : s.data.toList = l) {k : Nat} {c : UInt8} (hk : l[k]? = some c) : ∃ h : k < s.size, ((s[k]'h).toNat : Int) = c.toNat := by
  have hlt : k < s.size := by rw [str_list, hl]; exact (List.getElem?_eq_some_iff.1 hk).1
  refine ⟨hlt, ?_⟩
  have e := starts_at0 hl k hlt
  rw [hk] at e
  injection e with e
  rw [e]

set_option maxHeartbeats 2000000 in
set_option maxRecDepth 100000 in
theorem tag_begin (s : ByteArray) (c : UInt8) (r : List UInt8) (w : World) (hm : s.size ≤ 1000000) (hs : s.data.toList = 60 :: c :: r) (hc : letC c = true) :
    Calls Try.prog 22 #[.string s] w (TagRet (tagB (60 :: c :: r)).1 (tagB (60 :: c :: r)).2 (60 :: c :: r) w) := by
  have hst : startsB (60 :: c :: r) = true := by simp [startsB, hc]
  have h := fun W => starts_any s W (by unfold maxLen; omega)
  rw [hs, hst] at h
  have hl := fun W => letter_any (c.toNat : Int) W
  rw [letZ_byte, hc] at hl
  obtain ⟨hlt, g1⟩ := byte_at1 hs (k := 1) (c := c) rfl
  have hb := fun W => tkbegin_any s 60 (c :: r) hs W hm
  rw [hs] at hb
  have htb : tagB (60 :: c :: r) = ((attsOf [] ((c :: r).dropWhile tagC)).map (fun x => tkB (((c :: r).takeWhile tagC).map lowB) x.1), ((attsOf [] ((c :: r).dropWhile tagC)).map (·.2)).getD []) := by
    rw [tagB_letter hc]
    cases attsOf [] ((c :: r).dropWhile tagC) <;> rfl
  have hb2 : ∀ W, Calls Try.prog 41 #[.string s] W (TagRet (tagB (60 :: c :: r)).1 (tagB (60 :: c :: r)).2 (60 :: c :: r) W) := fun W => by
    rw [htb]
    exact hb W
  obtain ⟨T, hT⟩ : ∃ T, tagB (60 :: c :: r) = T := ⟨_, rfl⟩
  rw [hT] at hb2 ⊢
  obtain ⟨o, rest⟩ := T
  have hcb := c.toNat_lt
  have q1 : (0 : Int) ≤ c.toNat := by omega
  have q2 : (c.toNat : Int) < 256 := by omega
  have H := Lib.hid h
  have HL := Lib.hid hl
  have HB := Lib.hid hb2
  generalize (c.toNat : Int) = y at g1 q1 q2 HL
  clear h hl hb hb2 hst htb hT hs hc hcb
  go_enter Try.func22, Try.ntmps22
  go_wp2_with fail
  refine (H.out _).mono ?_
  rintro e w1 ⟨rfl, rfl⟩
  go_wp2_with fail
  refine (HL.out _).mono ?_
  rintro e w1 ⟨rfl, rfl⟩
  go_wp2_with fail
  refine (HB.out _).mono ?_
  rintro e w2 ⟨va, n, rfl, hn, hd, hat, hb⟩
  obtain ⟨A, cc, rfl, _⟩ := id hat
  have hbx := box_on (box_here w #[.int .i64 0, .string ⟨#[]⟩, .slice none 0 0, .string ⟨#[]⟩] 31) hb
  have d0 : w2.cell? ⟨w.heap.size, 0, none⟩ = some (.int .i64 0) := cell_at hbx 0
  have d1 : w2.cell? ⟨w.heap.size, 1, none⟩ = some (.string ⟨#[]⟩) := cell_at hbx 1
  have d2 : w2.cell? ⟨w.heap.size, 2, none⟩ = some (.slice none 0 0) := cell_at hbx 2
  have d3 : w2.cell? ⟨w.heap.size, 3, none⟩ = some (.string ⟨#[]⟩) := cell_at hbx 3
  have f0 := froz_at hbx 0
  have f1 := froz_at hbx 1
  have f2 := froz_at hbx 2
  have f3 := froz_at hbx 3
  have HF := Lib.hid (fun a b c d => tag_fin (w := w) (below_new w _) (by simp) hn hd hat hb a b c d)
  clear hbx hn hd hat hb
  rw [tkv_agg]
  rw [tkv_agg] at HF
  generalize (o.getD tk0).kind = k1 at *
  generalize (o.getD tk0).name = k2 at *
  generalize (o.getD tk0).attrs.length = k3 at *
  generalize (o.getD tk0).text = k4 at *
  go_wp2_with fail
  refine bodyPost_ret (v := .tuple #[.agg #[.int .i64 k1, .string k2, .slice A k3 cc, .string k4], .int .i64 n]) ?_ rfl (HF.out _ _ _ _)
  simp [results, Try.f22, go_sem, d0, d1, d2, d3]

end Go.Proofs.Ytialfafjoemppaa

/- Part TkP. -/
namespace Go.Proofs.Ytialfafjoemppaa
open Go.RowKit
set_option linter.unusedVariables false

set_option maxHeartbeats 2000000 in
set_option maxRecDepth 100000 in
/-- An ending tag. -/
theorem tag_end (s : ByteArray) (l : List UInt8) (c : UInt8) (w : World) (hm : s.size ≤ 1000000) (hs : s.data.toList = l) (hst : startsB l = true) (h1 : l[1]? = some c) (hc : letC c = false) (hg : c = 47) (d : UInt8) (h2 : l[2]? = some d) (hd : letC d = true)
    (o : Option Tk) (rest : List UInt8) (hcall : ∀ W, Below w.heap.size w W → Calls Try.prog 42 #[.string s] W (TagRet o rest l W)) :
    Calls Try.prog 22 #[.string s] w (TagRet o rest l w) := by
  have h := fun W => starts_any s W (by unfold maxLen; omega)
  rw [hs, hst] at h
  have hl := fun W => letter_any (c.toNat : Int) W
  rw [letZ_byte, hc] at hl
  obtain ⟨hlt, g1⟩ := byte_at1 hs (k := 1) (c := c) h1
  have hl3' := fun W => letter_any (d.toNat : Int) W
  rw [letZ_byte, hd] at hl3'
  obtain ⟨hlt2, g2⟩ := byte_at1 hs (k := 2) (c := d) h2
  have hlt2' : (2 : Int) < (s.size : Int) := by omega
  have hdb := d.toNat_lt
  have z1 : (0 : Int) ≤ d.toNat := by omega
  have z2 : (d.toNat : Int) < 256 := by omega
  have HL3 := Lib.hid hl3'
  have hcb := c.toNat_lt
  have q1 : (0 : Int) ≤ c.toNat := by omega
  have q2 : (c.toNat : Int) < 256 := by omega
  have H := Lib.hid h
  have HL := Lib.hid hl
  have hy : (c.toNat : Int) = 47 := by rw [hg]; rfl
  rw [hy] at g1 HL
  generalize (d.toNat : Int) = z at g2 z1 z2 HL3
  have HB := Lib.hid (hcall _ (below_new w (.cells #[.int .i64 0, .string ⟨#[]⟩, .slice none 0 0, .string ⟨#[]⟩] 31)))
  clear h hl hst hs hc hcb hg h1 hy q1 q2 hl3' hdb hd h2 hcall
  go_enter Try.func22, Try.ntmps22
  go_wp2_with fail
  refine (H.out _).mono ?_
  rintro e w1 ⟨rfl, rfl⟩
  go_wp2_with fail
  refine (HL.out _).mono ?_
  rintro e w1 ⟨rfl, rfl⟩
  go_wp2_with fail
  refine (HL3.out _).mono ?_
  rintro e w1 ⟨rfl, rfl⟩
  go_wp2_with fail
  refine HB.out.mono ?_
  rintro e w2 ⟨va, n, rfl, hn, hd, hat, hb⟩
  obtain ⟨A, cc, rfl, _⟩ := id hat
  have hbx := box_on (box_here w #[.int .i64 0, .string ⟨#[]⟩, .slice none 0 0, .string ⟨#[]⟩] 31) hb
  have d0 : w2.cell? ⟨w.heap.size, 0, none⟩ = some (.int .i64 0) := cell_at hbx 0
  have d1 : w2.cell? ⟨w.heap.size, 1, none⟩ = some (.string ⟨#[]⟩) := cell_at hbx 1
  have d2 : w2.cell? ⟨w.heap.size, 2, none⟩ = some (.slice none 0 0) := cell_at hbx 2
  have d3 : w2.cell? ⟨w.heap.size, 3, none⟩ = some (.string ⟨#[]⟩) := cell_at hbx 3
  have f0 := froz_at hbx 0
  have f1 := froz_at hbx 1
  have f2 := froz_at hbx 2
  have f3 := froz_at hbx 3
  have HF := Lib.hid (fun a b c d => tag_fin (w := w) (below_new w _) (by simp) hn hd hat hb a b c d)
  clear hbx hn hd hat hb
  rw [tkv_agg]
  rw [tkv_agg] at HF
  generalize (o.getD tk0).kind = k1 at *
  generalize (o.getD tk0).name = k2 at *
  generalize (o.getD tk0).attrs.length = k3 at *
  generalize (o.getD tk0).text = k4 at *
  go_wp2_with fail
  refine bodyPost_ret (v := .tuple #[.agg #[.int .i64 k1, .string k2, .slice A k3 cc, .string k4], .int .i64 n]) ?_ rfl (HF.out _ _ _ _)
  simp [results, Try.f22, go_sem, d0, d1, d2, d3]

set_option maxHeartbeats 2000000 in
set_option maxRecDepth 100000 in
/-- </>. -/
theorem tag_nil (s : ByteArray) (l : List UInt8) (c : UInt8) (w : World) (hm : s.size ≤ 1000000) (hs : s.data.toList = l) (hst : startsB l = true) (h1 : l[1]? = some c) (hc : letC c = false) (hg : c = 47) (d : UInt8) (h2 : l[2]? = some d) (hd : letC d = false) (hp3 : Lib.hasPrefix l [60, 47, 62] = true)
    (rest : List UInt8) (hrest : l.drop 3 = rest) (hl3 : 3 ≤ l.length) :
    Calls Try.prog 22 #[.string s] w (TagRet none rest l w) := by
  have h := fun W => starts_any s W (by unfold maxLen; omega)
  rw [hs, hst] at h
  have hl := fun W => letter_any (c.toNat : Int) W
  rw [letZ_byte, hc] at hl
  obtain ⟨hlt, g1⟩ := byte_at1 hs (k := 1) (c := c) h1
  have hl3' := fun W => letter_any (d.toNat : Int) W
  rw [letZ_byte, hd] at hl3'
  obtain ⟨hlt2, g2⟩ := byte_at1 hs (k := 2) (c := d) h2
  have hlt2' : (2 : Int) < (s.size : Int) := by omega
  have hdb := d.toNat_lt
  have z1 : (0 : Int) ≤ d.toNat := by omega
  have z2 : (d.toNat : Int) < 256 := by omega
  have HL3 := Lib.hid hl3'
  have hq3 := fun W => Try.strings_HasPrefix s ⟨#[60, 47, 62]⟩ W
  rw [hs, hp3] at hq3
  have HQ3 := Lib.hid hq3
  have hcb := c.toNat_lt
  have q1 : (0 : Int) ≤ c.toNat := by omega
  have q2 : (c.toNat : Int) < 256 := by omega
  have H := Lib.hid h
  have HL := Lib.hid hl
  have hy : (c.toNat : Int) = 47 := by rw [hg]; rfl
  rw [hy] at g1 HL
  generalize (d.toNat : Int) = z at g2 z1 z2 HL3
  clear h hl hst hs hc hcb hg h1 hy q1 q2 hl3' hdb hd h2 hq3 hp3
  go_enter Try.func22, Try.ntmps22
  go_wp2_with fail
  refine (H.out _).mono ?_
  rintro e w1 ⟨rfl, rfl⟩
  go_wp2_with fail
  refine (HL.out _).mono ?_
  rintro e w1 ⟨rfl, rfl⟩
  go_wp2_with fail
  refine (HL3.out _).mono ?_
  rintro e w1 ⟨rfl, rfl⟩
  go_wp2_with fail
  refine (HQ3.out _).mono ?_
  rintro e w1 ⟨rfl, rfl⟩
  go_wp2_with fail
  refine bodyPost_ret (v := .tuple #[.agg #[.int .i64 0, .string ⟨#[]⟩, .slice none 0 0, .string ⟨#[]⟩], .int .i64 3]) ?_ rfl ⟨.slice none 0 0, 3, rfl, hl3, hrest, AttrsAt.nil _ _, below_new _ _⟩
  simp [results, Try.f22, go_sem]

set_option maxHeartbeats 2000000 in
set_option maxRecDepth 100000 in
/-- A comment up to the next >. -/
theorem tag_gt1 (s : ByteArray) (l : List UInt8) (c : UInt8) (w : World) (hm : s.size ≤ 1000000) (hs : s.data.toList = l) (hst : startsB l = true) (h1 : l[1]? = some c) (hc : letC c = false) (hg : c ≠ 47) (hp3 : Lib.hasPrefix l [60, 47, 62] = false) (hp4 : Lib.hasPrefix l [60, 33, 45, 45] = false) (HG : Glob w)
    (o : Option Tk) (rest : List UInt8) (hcall : ∀ W, Below w.heap.size w W → Calls Try.prog 44 #[.string s, .int .i64 2, .string ⟨#[62]⟩] W (TagRet o rest l W)) :
    Calls Try.prog 22 #[.string s] w (TagRet o rest l w) := by
  have h := fun W => starts_any s W (by unfold maxLen; omega)
  rw [hs, hst] at h
  have hl := fun W => letter_any (c.toNat : Int) W
  rw [letZ_byte, hc] at hl
  obtain ⟨hlt, g1⟩ := byte_at1 hs (k := 1) (c := c) h1
  have hq3 := fun W => Try.strings_HasPrefix s ⟨#[60, 47, 62]⟩ W
  rw [hs, hp3] at hq3
  have HQ3 := Lib.hid hq3
  have hq4 := fun W => Try.strings_HasPrefix s ⟨#[60, 33, 45, 45]⟩ W
  rw [hs, hp4] at hq4
  have HQ4 := Lib.hid hq4
  have hcb := c.toNat_lt
  have q1 : (0 : Int) ≤ c.toNat := by omega
  have q2 : (c.toNat : Int) < 256 := by omega
  have H := Lib.hid h
  have HL := Lib.hid hl
  have B1 : ((c.toNat : Int) == 47) = false := by
    rw [beq_eq_false_iff_ne]
    intro e
    exact hg (UInt8.toNat_inj.1 (show c.toNat = 47 by omega))
  generalize (c.toNat : Int) = y at g1 q1 q2 HL B1
  have HB := Lib.hid (hcall _ (below_new w (.cells #[.int .i64 0, .string ⟨#[]⟩, .slice none 0 0, .string ⟨#[]⟩] 31)))
  clear h hl hst hs hc hcb hg h1 hq3 hp3 hq4 hp4 hcall
  go_enter Try.func22, Try.ntmps22
  go_wp2_with fail
  refine (H.out _).mono ?_
  rintro e w1 ⟨rfl, rfl⟩
  go_wp2_with fail
  refine (HL.out _).mono ?_
  rintro e w1 ⟨rfl, rfl⟩
  go_wp2_with fail
  refine (HQ3.out _).mono ?_
  rintro e w1 ⟨rfl, rfl⟩
  go_wp2_with fail
  refine (HQ4.out _).mono ?_
  rintro e w1 ⟨rfl, rfl⟩
  go_wp2_with fail
  refine HB.out.mono ?_
  rintro e w2 ⟨va, n, rfl, hn, hd, hat, hb⟩
  obtain ⟨A, cc, rfl, _⟩ := id hat
  have hbx := box_on (box_here w #[.int .i64 0, .string ⟨#[]⟩, .slice none 0 0, .string ⟨#[]⟩] 31) hb
  have d0 : w2.cell? ⟨w.heap.size, 0, none⟩ = some (.int .i64 0) := cell_at hbx 0
  have d1 : w2.cell? ⟨w.heap.size, 1, none⟩ = some (.string ⟨#[]⟩) := cell_at hbx 1
  have d2 : w2.cell? ⟨w.heap.size, 2, none⟩ = some (.slice none 0 0) := cell_at hbx 2
  have d3 : w2.cell? ⟨w.heap.size, 3, none⟩ = some (.string ⟨#[]⟩) := cell_at hbx 3
  have f0 := froz_at hbx 0
  have f1 := froz_at hbx 1
  have f2 := froz_at hbx 2
  have f3 := froz_at hbx 3
  have HF := Lib.hid (fun a b c d => tag_fin (w := w) (below_new w _) (by simp) hn hd hat hb a b c d)
  clear hbx hn hd hat hb
  rw [tkv_agg]
  rw [tkv_agg] at HF
  generalize (o.getD tk0).kind = k1 at *
  generalize (o.getD tk0).name = k2 at *
  generalize (o.getD tk0).attrs.length = k3 at *
  generalize (o.getD tk0).text = k4 at *
  go_wp2_with fail
  refine bodyPost_ret (v := .tuple #[.agg #[.int .i64 k1, .string k2, .slice A k3 cc, .string k4], .int .i64 n]) ?_ rfl (HF.out _ _ _ _)
  simp [results, Try.f22, go_sem, d0, d1, d2, d3]

set_option maxHeartbeats 2000000 in
set_option maxRecDepth 100000 in
/-- Likewise, where </ ends the text. -/
theorem tag_gt2 (s : ByteArray) (l : List UInt8) (c : UInt8) (w : World) (hm : s.size ≤ 1000000) (hs : s.data.toList = l) (hst : startsB l = true) (h1 : l[1]? = some c) (hc : letC c = false) (hg : c = 47) (hz : s.size = 2) (hp3 : Lib.hasPrefix l [60, 47, 62] = false) (hp4 : Lib.hasPrefix l [60, 33, 45, 45] = false) (HG : Glob w)
    (o : Option Tk) (rest : List UInt8) (hcall : ∀ W, Below w.heap.size w W → Calls Try.prog 44 #[.string s, .int .i64 2, .string ⟨#[62]⟩] W (TagRet o rest l W)) :
    Calls Try.prog 22 #[.string s] w (TagRet o rest l w) := by
  have h := fun W => starts_any s W (by unfold maxLen; omega)
  rw [hs, hst] at h
  have hl := fun W => letter_any (c.toNat : Int) W
  rw [letZ_byte, hc] at hl
  obtain ⟨hlt, g1⟩ := byte_at1 hs (k := 1) (c := c) h1
  have hq3 := fun W => Try.strings_HasPrefix s ⟨#[60, 47, 62]⟩ W
  rw [hs, hp3] at hq3
  have HQ3 := Lib.hid hq3
  have hq4 := fun W => Try.strings_HasPrefix s ⟨#[60, 33, 45, 45]⟩ W
  rw [hs, hp4] at hq4
  have HQ4 := Lib.hid hq4
  have hcb := c.toNat_lt
  have q1 : (0 : Int) ≤ c.toNat := by omega
  have q2 : (c.toNat : Int) < 256 := by omega
  have H := Lib.hid h
  have HL := Lib.hid hl
  have hy : (c.toNat : Int) = 47 := by rw [hg]; rfl
  rw [hy] at g1 HL
  have hz2 : decide ((2 : Int) < (s.size : Int)) = false := by rw [decide_eq_false_iff_not]; omega
  have HB := Lib.hid (hcall _ (below_new w (.cells #[.int .i64 0, .string ⟨#[]⟩, .slice none 0 0, .string ⟨#[]⟩] 31)))
  clear h hl hst hs hc hcb hg h1 hy q1 q2 hz hq3 hp3 hq4 hp4 hcall
  go_enter Try.func22, Try.ntmps22
  go_wp2_with fail
  refine (H.out _).mono ?_
  rintro e w1 ⟨rfl, rfl⟩
  go_wp2_with fail
  refine (HL.out _).mono ?_
  rintro e w1 ⟨rfl, rfl⟩
  go_wp2_with fail
  refine (HQ3.out _).mono ?_
  rintro e w1 ⟨rfl, rfl⟩
  go_wp2_with fail
  refine (HQ4.out _).mono ?_
  rintro e w1 ⟨rfl, rfl⟩
  go_wp2_with fail
  refine HB.out.mono ?_
  rintro e w2 ⟨va, n, rfl, hn, hd, hat, hb⟩
  obtain ⟨A, cc, rfl, _⟩ := id hat
  have hbx := box_on (box_here w #[.int .i64 0, .string ⟨#[]⟩, .slice none 0 0, .string ⟨#[]⟩] 31) hb
  have d0 : w2.cell? ⟨w.heap.size, 0, none⟩ = some (.int .i64 0) := cell_at hbx 0
  have d1 : w2.cell? ⟨w.heap.size, 1, none⟩ = some (.string ⟨#[]⟩) := cell_at hbx 1
  have d2 : w2.cell? ⟨w.heap.size, 2, none⟩ = some (.slice none 0 0) := cell_at hbx 2
  have d3 : w2.cell? ⟨w.heap.size, 3, none⟩ = some (.string ⟨#[]⟩) := cell_at hbx 3
  have f0 := froz_at hbx 0
  have f1 := froz_at hbx 1
  have f2 := froz_at hbx 2
  have f3 := froz_at hbx 3
  have HF := Lib.hid (fun a b c d => tag_fin (w := w) (below_new w _) (by simp) hn hd hat hb a b c d)
  clear hbx hn hd hat hb
  rw [tkv_agg]
  rw [tkv_agg] at HF
  generalize (o.getD tk0).kind = k1 at *
  generalize (o.getD tk0).name = k2 at *
  generalize (o.getD tk0).attrs.length = k3 at *
  generalize (o.getD tk0).text = k4 at *
  go_wp2_with fail
  refine bodyPost_ret (v := .tuple #[.agg #[.int .i64 k1, .string k2, .slice A k3 cc, .string k4], .int .i64 n]) ?_ rfl (HF.out _ _ _ _)
  simp [results, Try.f22, go_sem, d0, d1, d2, d3]

set_option maxHeartbeats 2000000 in
set_option maxRecDepth 100000 in
/-- Likewise, where </ and no letter begin it. -/
theorem tag_gt3 (s : ByteArray) (l : List UInt8) (c : UInt8) (w : World) (hm : s.size ≤ 1000000) (hs : s.data.toList = l) (hst : startsB l = true) (h1 : l[1]? = some c) (hc : letC c = false) (hg : c = 47) (d : UInt8) (h2 : l[2]? = some d) (hd : letC d = false) (hp3 : Lib.hasPrefix l [60, 47, 62] = false) (hp4 : Lib.hasPrefix l [60, 33, 45, 45] = false) (HG : Glob w)
    (o : Option Tk) (rest : List UInt8) (hcall : ∀ W, Below w.heap.size w W → Calls Try.prog 44 #[.string s, .int .i64 2, .string ⟨#[62]⟩] W (TagRet o rest l W)) :
    Calls Try.prog 22 #[.string s] w (TagRet o rest l w) := by
  have h := fun W => starts_any s W (by unfold maxLen; omega)
  rw [hs, hst] at h
  have hl := fun W => letter_any (c.toNat : Int) W
  rw [letZ_byte, hc] at hl
  obtain ⟨hlt, g1⟩ := byte_at1 hs (k := 1) (c := c) h1
  have hl3' := fun W => letter_any (d.toNat : Int) W
  rw [letZ_byte, hd] at hl3'
  obtain ⟨hlt2, g2⟩ := byte_at1 hs (k := 2) (c := d) h2
  have hlt2' : (2 : Int) < (s.size : Int) := by omega
  have hdb := d.toNat_lt
  have z1 : (0 : Int) ≤ d.toNat := by omega
  have z2 : (d.toNat : Int) < 256 := by omega
  have HL3 := Lib.hid hl3'
  have hq3 := fun W => Try.strings_HasPrefix s ⟨#[60, 47, 62]⟩ W
  rw [hs, hp3] at hq3
  have HQ3 := Lib.hid hq3
  have hq4 := fun W => Try.strings_HasPrefix s ⟨#[60, 33, 45, 45]⟩ W
  rw [hs, hp4] at hq4
  have HQ4 := Lib.hid hq4
  have hcb := c.toNat_lt
  have q1 : (0 : Int) ≤ c.toNat := by omega
  have q2 : (c.toNat : Int) < 256 := by omega
  have H := Lib.hid h
  have HL := Lib.hid hl
  have hy : (c.toNat : Int) = 47 := by rw [hg]; rfl
  rw [hy] at g1 HL
  generalize (d.toNat : Int) = z at g2 z1 z2 HL3
  have HB := Lib.hid (hcall _ (below_new w (.cells #[.int .i64 0, .string ⟨#[]⟩, .slice none 0 0, .string ⟨#[]⟩] 31)))
  clear h hl hst hs hc hcb hg h1 hy q1 q2 hl3' hdb hd h2 hq3 hp3 hq4 hp4 hcall
  go_enter Try.func22, Try.ntmps22
  go_wp2_with fail
  refine (H.out _).mono ?_
  rintro e w1 ⟨rfl, rfl⟩
  go_wp2_with fail
  refine (HL.out _).mono ?_
  rintro e w1 ⟨rfl, rfl⟩
  go_wp2_with fail
  refine (HL3.out _).mono ?_
  rintro e w1 ⟨rfl, rfl⟩
  go_wp2_with fail
  refine (HQ3.out _).mono ?_
  rintro e w1 ⟨rfl, rfl⟩
  go_wp2_with fail
  refine (HQ4.out _).mono ?_
  rintro e w1 ⟨rfl, rfl⟩
  go_wp2_with fail
  refine HB.out.mono ?_
  rintro e w2 ⟨va, n, rfl, hn, hd, hat, hb⟩
  obtain ⟨A, cc, rfl, _⟩ := id hat
  have hbx := box_on (box_here w #[.int .i64 0, .string ⟨#[]⟩, .slice none 0 0, .string ⟨#[]⟩] 31) hb
  have d0 : w2.cell? ⟨w.heap.size, 0, none⟩ = some (.int .i64 0) := cell_at hbx 0
  have d1 : w2.cell? ⟨w.heap.size, 1, none⟩ = some (.string ⟨#[]⟩) := cell_at hbx 1
  have d2 : w2.cell? ⟨w.heap.size, 2, none⟩ = some (.slice none 0 0) := cell_at hbx 2
  have d3 : w2.cell? ⟨w.heap.size, 3, none⟩ = some (.string ⟨#[]⟩) := cell_at hbx 3
  have f0 := froz_at hbx 0
  have f1 := froz_at hbx 1
  have f2 := froz_at hbx 2
  have f3 := froz_at hbx 3
  have HF := Lib.hid (fun a b c d => tag_fin (w := w) (below_new w _) (by simp) hn hd hat hb a b c d)
  clear hbx hn hd hat hb
  rw [tkv_agg]
  rw [tkv_agg] at HF
  generalize (o.getD tk0).kind = k1 at *
  generalize (o.getD tk0).name = k2 at *
  generalize (o.getD tk0).attrs.length = k3 at *
  generalize (o.getD tk0).text = k4 at *
  go_wp2_with fail
  refine bodyPost_ret (v := .tuple #[.agg #[.int .i64 k1, .string k2, .slice A k3 cc, .string k4], .int .i64 n]) ?_ rfl (HF.out _ _ _ _)
  simp [results, Try.f22, go_sem, d0, d1, d2, d3]

set_option maxHeartbeats 2000000 in
set_option maxRecDepth 100000 in
/-- A comment up to -->. -/
theorem tag_cmt (s : ByteArray) (l : List UInt8) (c : UInt8) (w : World) (hm : s.size ≤ 1000000) (hs : s.data.toList = l) (hst : startsB l = true) (h1 : l[1]? = some c) (hc : letC c = false) (hg : c ≠ 47) (hp3 : Lib.hasPrefix l [60, 47, 62] = false) (hp4 : Lib.hasPrefix l [60, 33, 45, 45] = true) (HG : Glob w) (hz4 : 4 ≤ s.size)
    (o : Option Tk) (rest : List UInt8) (hcall : ∀ W, Below w.heap.size w W → Calls Try.prog 44 #[.string s, .int .i64 4, .string ⟨#[45, 45, 62]⟩] W (TagRet o rest l W)) :
    Calls Try.prog 22 #[.string s] w (TagRet o rest l w) := by
  have h := fun W => starts_any s W (by unfold maxLen; omega)
  rw [hs, hst] at h
  have hl := fun W => letter_any (c.toNat : Int) W
  rw [letZ_byte, hc] at hl
  obtain ⟨hlt, g1⟩ := byte_at1 hs (k := 1) (c := c) h1
  have hq3 := fun W => Try.strings_HasPrefix s ⟨#[60, 47, 62]⟩ W
  rw [hs, hp3] at hq3
  have HQ3 := Lib.hid hq3
  have hq4 := fun W => Try.strings_HasPrefix s ⟨#[60, 33, 45, 45]⟩ W
  rw [hs, hp4] at hq4
  have HQ4 := Lib.hid hq4
  have hcb := c.toNat_lt
  have q1 : (0 : Int) ≤ c.toNat := by omega
  have q2 : (c.toNat : Int) < 256 := by omega
  have H := Lib.hid h
  have HL := Lib.hid hl
  have B1 : ((c.toNat : Int) == 47) = false := by
    rw [beq_eq_false_iff_ne]
    intro e
    exact hg (UInt8.toNat_inj.1 (show c.toNat = 47 by omega))
  generalize (c.toNat : Int) = y at g1 q1 q2 HL B1
  have HB := Lib.hid (hcall _ (below_new w (.cells #[.int .i64 0, .string ⟨#[]⟩, .slice none 0 0, .string ⟨#[]⟩] 31)))
  clear h hl hst hs hc hcb hg h1 hq3 hp3 hq4 hp4 hcall
  go_enter Try.func22, Try.ntmps22
  go_wp2_with fail
  refine (H.out _).mono ?_
  rintro e w1 ⟨rfl, rfl⟩
  go_wp2_with fail
  refine (HL.out _).mono ?_
  rintro e w1 ⟨rfl, rfl⟩
  go_wp2_with fail
  refine (HQ3.out _).mono ?_
  rintro e w1 ⟨rfl, rfl⟩
  go_wp2_with fail
  refine (HQ4.out _).mono ?_
  rintro e w1 ⟨rfl, rfl⟩
  go_wp2_with fail
  refine HB.out.mono ?_
  rintro e w2 ⟨va, n, rfl, hn, hd, hat, hb⟩
  obtain ⟨A, cc, rfl, _⟩ := id hat
  have hbx := box_on (box_here w #[.int .i64 0, .string ⟨#[]⟩, .slice none 0 0, .string ⟨#[]⟩] 31) hb
  have d0 : w2.cell? ⟨w.heap.size, 0, none⟩ = some (.int .i64 0) := cell_at hbx 0
  have d1 : w2.cell? ⟨w.heap.size, 1, none⟩ = some (.string ⟨#[]⟩) := cell_at hbx 1
  have d2 : w2.cell? ⟨w.heap.size, 2, none⟩ = some (.slice none 0 0) := cell_at hbx 2
  have d3 : w2.cell? ⟨w.heap.size, 3, none⟩ = some (.string ⟨#[]⟩) := cell_at hbx 3
  have f0 := froz_at hbx 0
  have f1 := froz_at hbx 1
  have f2 := froz_at hbx 2
  have f3 := froz_at hbx 3
  have HF := Lib.hid (fun a b c d => tag_fin (w := w) (below_new w _) (by simp) hn hd hat hb a b c d)
  clear hbx hn hd hat hb
  rw [tkv_agg]
  rw [tkv_agg] at HF
  generalize (o.getD tk0).kind = k1 at *
  generalize (o.getD tk0).name = k2 at *
  generalize (o.getD tk0).attrs.length = k3 at *
  generalize (o.getD tk0).text = k4 at *
  go_wp2_with fail
  refine bodyPost_ret (v := .tuple #[.agg #[.int .i64 k1, .string k2, .slice A k3 cc, .string k4], .int .i64 n]) ?_ rfl (HF.out _ _ _ _)
  simp [results, Try.f22, go_sem, d0, d1, d2, d3]

end Go.Proofs.Ytialfafjoemppaa

/- Part TkQ. -/
namespace Go.Proofs.Ytialfafjoemppaa
open Go.RowKit
set_option linter.unusedVariables false

theorem pre_no3 {l : List UInt8} {a b c d e : UInt8} {r : List UInt8} (hl : l = 60 :: a :: r) (h : a ≠ b) : Lib.hasPrefix l (60 :: b :: [c]) = false ∧ Lib.hasPrefix l (60 :: b :: [c, d]) = false := by
  subst hl
  have hb : (b == a) = false := by rw [beq_eq_false_iff_ne]; exact fun e => h e.symm
  constructor
  · show ((60 == 60) && ((b == a) && _)) = false
    rw [hb, Bool.false_and, Bool.and_false]
  · show ((60 == 60) && ((b == a) && _)) = false
    rw [hb, Bool.false_and, Bool.and_false]

theorem gt_call {s : ByteArray} {l : List UInt8} (hs : s.data.toList = l) (hm : s.size ≤ 1000000) (h2 : 2 ≤ l.length) {w : World} (HG : Glob w) :
    ∀ W, Below w.heap.size w W → Calls Try.prog 44 #[.string s, .int .i64 2, .string ⟨#[62]⟩] W (TagRet (some (tkR (upTo1 (l.drop 2)).1)) (upTo1 (l.drop 2)).2 l W) := by
  intro W hb
  have h := remark_tag s ⟨#[62]⟩ 2 W (by rw [str_list, hs]; exact h2) hm (HG.below hb)
  rw [hs] at h
  have hc := cut_gt (l.drop 2)
  rw [← hc.1, ← hc.2]
  exact h
theorem cmt_call {s : ByteArray} {l : List UInt8} (hs : s.data.toList = l) (hm : s.size ≤ 1000000) (h4 : 4 ≤ l.length) {w : World} (HG : Glob w) :
    ∀ W, Below w.heap.size w W → Calls Try.prog 44 #[.string s, .int .i64 4, .string ⟨#[45, 45, 62]⟩] W (TagRet (some (tkR (upTo3 (l.drop 4)).1)) (upTo3 (l.drop 4)).2 l W) := by
  intro W hb
  have h := remark_tag s ⟨#[45, 45, 62]⟩ 4 W (by rw [str_list, hs]; exact h4) hm (HG.below hb)
  rw [hs] at h
  have hc := cut_three (l.drop 4)
  rw [← hc.1, ← hc.2]
  exact h

theorem tag_any (s : ByteArray) (w : World) (hm : s.size ≤ 1000000) (HG : Glob w) (hst : startsB s.data.toList = true) :
    Calls Try.prog 22 #[.string s] w (TagRet (tagB s.data.toList).1 (tagB s.data.toList).2 s.data.toList w) := by
  obtain ⟨c, r, hl, hc⟩ := starts_form hst
  rw [hl] at hst ⊢
  cases hlc : letC c with
  | true => exact tag_begin s c r w hm hl hlc
  | false =>
    have h2 : 2 ≤ (60 :: c :: r).length := by simp
    by_cases h47 : c = 47
    · subst h47
      rw [tagB_slash]
      have hp4 : Lib.hasPrefix (60 :: 47 :: r) [60, 33, 45, 45] = false := rfl
      cases r with
      | nil =>
        exact tag_gt2 s _ 47 w hm hl hst rfl rfl rfl (by rw [str_list, hl]; rfl) rfl hp4 HG _ _ (gt_call hl hm h2 HG)
      | cons d r =>
        cases hd : letC d with
        | true => exact tag_end s _ 47 w hm hl hst rfl rfl rfl d rfl hd _ _ (fun W _ => by
            have h := tkend_any s 60 47 d r hl hd W hm
            rw [hl] at h
            exact h)
        | false =>
          by_cases h62 : d = 62
          · subst h62
            exact tag_nil s _ 47 w hm hl hst rfl rfl rfl 62 rfl rfl rfl r rfl (by simp)
          · have hp3 : Lib.hasPrefix (60 :: 47 :: d :: r) [60, 47, 62] = false := by
              have hb : (62 == d) = false := by rw [beq_eq_false_iff_ne]; exact fun e => h62 e.symm
              show ((60 == 60) && ((47 == 47) && ((62 == d) && _))) = false
              rw [hb]
              rfl
            rw [slashB_cons, if_neg h62, if_neg (by rw [hd]; decide)]
            exact tag_gt3 s _ 47 w hm hl hst rfl rfl rfl d rfl hd hp3 hp4 HG _ _ (gt_call hl hm h2 HG)
    · have hp3 : Lib.hasPrefix (60 :: c :: r) [60, 47, 62] = false := (pre_no3 (d := 0) (e := 0) rfl h47).1
      cases hp : Lib.hasPrefix (c :: r) [33, 45, 45] with
      | true =>
        obtain ⟨t, ht⟩ := pre_form3 hp
        injection ht with e1 e2
        subst e1
        subst e2
        rw [tagB_remark]
        exact tag_cmt s _ 33 w hm hl hst rfl rfl (by decide) hp3 rfl HG (by rw [str_list, hl]; simp) _ _ (cmt_call hl hm (by simp) HG)
      | false =>
        have hp4 : Lib.hasPrefix (60 :: c :: r) [60, 33, 45, 45] = false := by
          show ((60 == 60) && Lib.hasPrefix (c :: r) [33, 45, 45]) = false
          rw [hp]
          rfl
        rw [tagB_other hlc hp h47]
        exact tag_gt1 s _ c w hm hl hst rfl hlc h47 hp3 hp4 HG _ _ (gt_call hl hm h2 HG)

theorem tagB_kind {l : List UInt8} (h : startsB l = true) {k : Tk} (hk : (tagB l).1 = some k) : k.kind = 1 ∨ k.kind = 2 ∨ k.kind = 4 := by
  obtain ⟨c, r, rfl, _⟩ := starts_form h
  cases hl : letC c with
  | true =>
    rw [tagB_letter hl] at hk
    cases ha : attsOf [] ((c :: r).dropWhile tagC) with
    | none => rw [ha] at hk; cases hk
    | some x => rw [ha] at hk; injection hk with hk; subst hk; exact .inl rfl
  | false =>
    cases hp : Lib.hasPrefix (c :: r) [33, 45, 45] with
    | true =>
      obtain ⟨t, ht⟩ := pre_form3 hp
      injection ht with e1 e2
      subst e1
      subst e2
      rw [tagB_remark] at hk
      injection hk with hk
      subst hk
      exact .inr (.inr rfl)
    | false =>
      by_cases h4 : c = 47
      · subst h4
        rw [tagB_slash] at hk
        cases r with
        | nil =>
          have hk' : some (tkR []) = some k := hk
          injection hk' with hk'
          subst hk'
          exact .inr (.inr rfl)
        | cons d r =>
          rw [slashB_cons] at hk
          split at hk
          · cases hk
          · split at hk
            · split at hk
              · injection hk with hk
                subst hk
                exact .inr (.inl rfl)
              · cases hk
            · injection hk with hk
              subst hk
              exact .inr (.inr rfl)
      · rw [tagB_other hl hp h4] at hk
        injection hk with hk
        subst hk
        exact .inr (.inr rfl)

set_option maxHeartbeats 400000 in
theorem chars_any (s : ByteArray) (w : World) : Calls Try.prog 24 #[.string s] w fun e w' => e = .returned (tkv ⟨3, ⟨#[]⟩, [], s⟩ (.slice none 0 0)) ∧ Below w.heap.size w w' := by
  rw [tkv_agg]
  go_enter Try.func24, Try.ntmps24
  go_wp2_with fail
  refine bodyPost_ret (v := .agg #[.int .i64 3, .string ⟨#[]⟩, .slice none 0 0, .string s]) ?_ rfl ⟨rfl, below_new _ _⟩
  simp [results, Try.f24, go_sem]

end Go.Proofs.Ytialfafjoemppaa

/- Part TkR. -/
namespace Go.Proofs.Ytialfafjoemppaa
open Go.RowKit
set_option linter.unusedVariables false

theorem info_tok : (Try.prog.info? 31).map (fun i => (i.zero, i.size, i.bytes)) = some (some (.agg #[.int .i64 0, .string ⟨#[]⟩, .slice none 0 0, .string ⟨#[]⟩]), 4, 64) := by kernel_rfl

/-- A list of tokens of the call's own: their attributes lie anywhere from block lo on, but in its own row. -/
def OwnK5 (w : World) (lo : Nat) (l : List Tk) (v : Value) : Prop :=
  ∃ R : List (Tk × Value), R.map (·.1) = l ∧ w.ownsRow lo 31 4 v R.length (tcells R) ∧ ∀ r ∈ R, AttrsAt (Sub lo w v) w r.1.attrs r.2
theorem OwnK5.nil (w : World) (lo : Nat) : OwnK5 w lo [] (.slice none 0 0) := ⟨[], rfl, World.ownsRow_nil _ _ _ _, by simp⟩
theorem OwnK5.shape {w : World} {lo : Nat} {l : List Tk} {v : Value} (h : OwnK5 w lo l v) : ∃ A c, v = .slice A l.length c ∧ l.length ≤ c := by
  obtain ⟨R, rfl, hown, _⟩ := h
  rw [List.length_map]
  exact own_size hown
theorem OwnK5.lt {w : World} {lo : Nat} {l : List Tk} {v : Value} (h : OwnK5 w lo l v) : ∀ g, v.ownBlock = some g → lo ≤ g ∧ g < w.heap.size := by
  obtain ⟨R, rfl, hown, _⟩ := h
  exact fun g hg => hown.lt g hg
theorem OwnK5.later {w w' : World} {lo : Nat} {l : List Tk} {v : Value} (h : OwnK5 w lo l v) (hb : Below w.heap.size w w') : OwnK5 w' lo l v := by
  obtain ⟨R, hl, hown, hat⟩ := h
  exact ⟨R, hl, own_below hown hb, fun r hr => ((hat r hr).keep (Kept.below hb fun b hs => hs.2.1)).mono fun b hs => ⟨hs.1, Nat.lt_of_lt_of_le hs.2.1 hb.size, hs.2.2⟩⟩
theorem OwnK5.tokAt {w : World} {lo : Nat} {l : List Tk} {v : Value} (h : OwnK5 w lo l v) : TokAt (fun b => lo ≤ b ∧ b < w.heap.size) w l v := by
  obtain ⟨R, rfl, hown, hat⟩ := h
  obtain ⟨A, c, rfl, hc⟩ := own_size hown
  refine ⟨R, A, c, rfl, by rw [List.length_map], by rw [List.length_map]; exact hc, (Cells.own hown).mono fun b hb => hown.lt b hb, fun r hr => (hat r hr).mono fun b hb => ⟨hb.1, hb.2.1⟩⟩

/-- One token more, at an operation. -/
theorem wpList_append_tok {w : World} {ops : Array Oper} {rest : List Oper} {o : Oper} {a : Act} {Q : Exit → Act → World → Prop} (hgd : o.guard = none) (s x : Operand)
    (ho : o.op = .call { callee := .builtin .append, args := #[s, x], argTypes := #[24, 24] })
    (lo : Nat) (l : List Tk) (v : Value) (hs : a.eval s = v) (h : OwnK5 w lo l v) (r : Tk × Value) (ad : Addr) (c : Nat) (hx : a.eval x = .slice (some ad) 1 c)
    (hnews : ∀ j u, (tcells1 r)[j]? = some u → w.cell? (ad.add j) = some u) (hat : AttrsAt (Sub lo w v) w r.1.attrs r.2)
    (hlen : l.length ≤ 4000000) (hbase : lo ≤ w.heap.size)
    (hK : ∀ v' w', OwnK5 w' lo (l ++ [r.1]) v' → w.grownBy w' v.ownBlock → wpList Try.prog ops Q rest (a.put o.dst v') w') :
    wpList Try.prog ops Q (o :: rest) a w := by
  refine wpList_plain hgd fun K hK' => ?_
  obtain ⟨i0, hi, hz0, hz1, hz2⟩ := info_parts info_tok
  obtain ⟨R, rfl, hown, hat0⟩ := h
  rw [List.length_map] at hlen
  obtain ⟨A1, c1, hva, _⟩ := id hat
  have h1 : ∀ u ∈ tcells1 r, u.oneCell' = true := by
    intro u hu
    simp only [tcells1, List.mem_cons, List.not_mem_nil, or_false] at hu
    rcases hu with rfl | rfl | rfl | rfl
    · rfl
    · rfl
    · rw [hva]; rfl
    · rfl
  obtain ⟨v', w', hrun, own', hgr, hnew⟩ := run_append_new (w := w) lo 24 o.type 31 i0 _ 4 64 Try.underlying24 hi hz0 hz1 hz2 rfl (by decide) v R.length (tcells R) hown ad 1 c (tcells1 r) rfl hnews h1 (by unfold maxLen; omega) (by omega) hbase
  unfold Oper.wp
  simp [execOp, ho, resolve, invoke, builtin, hs, hx, hrun, Result.andThen]
  have hSS : ∀ b, Sub lo w v b → Sub lo w' v' b := by
    intro b hb
    refine ⟨hb.1, Nat.lt_of_lt_of_le hb.2.1 hgr.size, ?_⟩
    rcases hnew with e | e
    · rw [e]; exact hb.2.2
    · intro hg
      have := e b hg
      have := hb.2.1
      omega
  have kp : Kept (Sub lo w v) w w' := Kept.grown hgr fun b hb => ⟨hb.2.1, fun e => hb.2.2 e.symm⟩
  refine hK' _ _ (hK v' w' ⟨R ++ [r], by simp, ?_, ?_⟩ hgr)
  · rw [List.length_append, tcells_append]
    have : tcells [r] = tcells1 r := by simp [tcells]
    rw [this]
    exact own'
  · intro q hq
    rcases List.mem_append.1 hq with hq | hq
    · exact ((hat0 q hq).keep kp).mono hSS
    · simp at hq
      subst hq
      exact (AttrsAt.keep hat kp).mono hSS

/-- A new token's cells, where they were laid. -/
theorem new_four (w : World) (t : TypeId) (k : Tk) (va : Value) : ∀ j u, (tcells1 (k, va))[j]? = some u → (w.alloc (.cells #[.int .i64 k.kind, .string k.name, va, .string k.text] t)).cell? ((⟨w.heap.size, 0, none⟩ : Addr).add j) = some u := by
  intro j u hj
  rw [add_zero_addr]
  match j, hj with
  | 0, hj => simp [tcells1] at hj; subst hj; simp
  | 1, hj => simp [tcells1] at hj; subst hj; simp
  | 2, hj => simp [tcells1] at hj; subst hj; simp
  | 3, hj => simp [tcells1] at hj; subst hj; simp
  | j + 4, hj => simp [tcells1] at hj

end Go.Proofs.Ytialfafjoemppaa
