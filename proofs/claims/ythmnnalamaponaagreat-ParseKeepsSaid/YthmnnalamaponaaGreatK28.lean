/- Parts of the proof, in build order: TreeJ Par8J Par8K Par8Z Open GlbO. -/
import Derived.Test.YthmnnalamaponaaGreatK06
import Derived.Test.YthmnnalamaponaaGreatK27
import Derived.Test.YthmnnalamaponaaGreatK01
import Derived.Test.YthmnnalamaponaaGreatK05
import Derived.ProofKit
import Derived.OpenShut
import Derived.Shelf.Vars

/- Part TreeJ. -/
namespace Go.Proofs.YthmnnalamaponaaGreat
open Go.RowKit
set_option linter.unusedVariables false

theorem add_addr (b o j : Nat) : (⟨b, o, none⟩ : Addr).add j = ⟨b, o + j, none⟩ := by
  unfold Addr.add
  split
  · rename_i h0; subst h0; rfl
  · rfl

theorem run_append_zero {w : World} (base : Nat) (t ty e : TypeId) (i : TypeInfo) (size : Nat) (ht : Tryz.prog.underlying t = some (.slice e)) (hi : Tryz.prog.info? e = some i)
    (v : Value) (n : Nat) (xs : List Value) (hown : w.ownsRow base e size v n xs) (A : Option Addr) (c : Nat) :
    (Builtin.append_ #[t, t] ty #[v, .slice A 0 c]).run Tryz.prog w = .ok v w := by
  rcases hown.2 with ⟨rfl, rfl⟩ | ⟨g, cap, cur, rfl, _, _, hnc, _⟩
  · cases A <;> simp [Builtin.append_, run_underlying ht, sizeOf, typeInfo, hi, Builtin.lenOf, Builtin.firstCells, loadCells, loadCellsFrom]
  · cases A <;> simp [Builtin.append_, run_underlying ht, sizeOf, typeInfo, hi, Builtin.lenOf, Builtin.firstCells, hnc, storeCells, loadCells, loadCellsFrom]

/-- A list more. -/
theorem wpList_append_tree {w : World} {ops : Array Oper} {rest : List Oper} {o : Oper} {a : Act} {Q : Exit → Act → World → Prop} (hgd : o.guard = none) (s x : Operand)
    (ho : o.op = .call { callee := .builtin .append, args := #[s, x], argTypes := #[22, 22] })
    (base lo : Nat) (l : List Nd) (v : Value) (hs : a.eval s = v) (h : OwnC w base lo l v) (m : List Nd) (vx : Value) (hx : a.eval x = vx) (hm : Tree (Sub lo w v) w m vx)
    (hlen : l.length + m.length ≤ 1000000) (hbase : base ≤ w.heap.size)
    (hK : ∀ v' w', OwnC w' base lo (l ++ m) v' → w.grownBy w' v.ownBlock → wpList Tryz.prog ops Q rest (a.put o.dst v') w') :
    wpList Tryz.prog ops Q (o :: rest) a w := by
  refine wpList_plain hgd fun K hK' => ?_
  obtain ⟨i0, hi, hz0, hz1, hz2⟩ := info_parts info_node
  obtain ⟨R, rfl, hown, hat0, hk0, hn⟩ := id h
  rw [List.length_map] at hlen
  cases hm with
  | mk M _ A c hl hc hcell hat hkids =>
    subst hl
    by_cases h0 : M = []
    · subst h0
      have hrun := run_append_zero (w := w) base 22 o.type 35 i0 5 Tryz.underlying22 hi v R.length (ncells R) hown A c
      have hx' : a.eval x = .slice A 0 c := hx
      unfold Oper.wp
      simp [execOp, ho, resolve, invoke, builtin, hs, hx', hrun, Result.andThen]
      refine hK' _ _ (hK v w ?_ ⟨rfl, rfl, rfl, Nat.le_refl _, fun _ _ _ => rfl⟩)
      simpa using h
    · have hM : 0 < M.length := List.length_pos_iff.2 h0
      obtain ⟨b, o', rfl, hS, hcl⟩ := hcell (by rw [ncells_length]; omega)
      have h1 : ∀ u ∈ ncells M, u.oneCell' = true := by
        intro u hu
        rw [ncells, List.mem_flatMap] at hu
        obtain ⟨r, hr, hu⟩ := hu
        obtain ⟨A1, c1, hva, _⟩ := hat r hr
        obtain ⟨A2, c2, hvk, _⟩ := (hkids r hr).shape
        simp only [ncells1, List.mem_cons, List.not_mem_nil, or_false] at hu
        rcases hu with rfl | rfl | rfl | rfl | rfl
        · rfl
        · rfl
        · rw [hva]; rfl
        · rfl
        · rw [hvk]; rfl
      have hx' : a.eval x = .slice (some ⟨b, o', none⟩) M.length c := by rw [hx, List.length_map]
      rw [List.length_map] at hlen
      obtain ⟨v', w', hrun, own', hgr, hnew⟩ := run_append_new (w := w) base 22 o.type 35 i0 _ 5 88 Tryz.underlying22 hi hz0 hz1 hz2 rfl (by decide) v R.length (ncells R) hown ⟨b, o', none⟩ M.length c (ncells M) (ncells_length M)
        (fun j u hj => by have h9 := hcl j u hj; rw [add_addr]; exact h9) h1 (by unfold maxLen; omega) (by omega) hbase
      unfold Oper.wp
      simp [execOp, ho, resolve, invoke, builtin, hs, hx', hrun, Result.andThen]
      have hSS : ∀ b, Sub lo w v b → Sub lo w' v' b := by
        intro b hb
        refine ⟨hb.1, Nat.lt_of_lt_of_le hb.2.1 hgr.size, ?_⟩
        rcases hnew with e | e
        · rw [e]; exact hb.2.2
        · intro hg
          have := e b hg
          have := hb.2.1
          omega
      have kp : Kept (Sub lo w v) w w' := Kept.grown hgr fun b hb => ⟨hb.2.1, fun e => hb.2.2 e.symm⟩
      refine hK' _ _ (hK v' w' ⟨R ++ M, by simp, ?_, ?_, ?_, fun g hg hs => hs.2.2 hg⟩ hgr)
      · rw [List.length_append, ncells_append]
        exact own'
      · intro q hq
        rcases List.mem_append.1 hq with hq | hq
        · exact ((hat0 q hq).keep kp).mono hSS
        · exact ((hat q hq).keep kp).mono hSS
      · intro q hq
        rcases List.mem_append.1 hq with hq | hq
        · exact ((hk0 q hq).keep kp).mono hSS
        · exact ((hkids q hq).keep kp).mono hSS

/-- One node of a list, as a list. -/
theorem cut_one (W : World) (b o n c k : Nat) (hk : k < n) (hc : n ≤ c) :
    (Instr.slice 22 (.slice (some ⟨b, o, none⟩) n c) (some (.int .i64 (k : Int))) (some (.int .i64 ((k : Int) + 1))) none).run Tryz.prog W = .ok (.slice (some ⟨b, o + k * 5, none⟩) 1 (c - k)) W := by
  have he : Tryz.prog.elem 22 = 35 := by kernel_rfl
  rw [run_slice_lh W 22 (some ⟨b, o, none⟩) n c (by rw [he]; exact Tryz.underlying22) .i64 .i64 (k : Int) ((k : Int) + 1) (by omega) (by omega) (by omega)]
  rw [he, Tryz.sizeOf35]
  have e1 : ((k : Int) + 1).toNat = k + 1 := by omega
  simp only [Result.andThen, sliced, Int.toNat_natCast, e1]
  rw [if_neg (by omega), show k + 1 - k = 1 by omega, Option.map_some, add_addr]

theorem Tree.one {S : Nat → Prop} {w : World} {l : List Nd} {b o n c : Nat} (h : Tree S w l (.slice (some ⟨b, o, none⟩) n c)) {k : Nat} {m : Nd} (hm : l[k]? = some m) :
    Tree S w [m] (.slice (some ⟨b, o + k * 5, none⟩) 1 (c - k)) := by
  cases h with
  | mk R l A c hl hc hcell hat hkids =>
    subst hl
    have hk : k < (R.map Rn.n).length := (List.getElem?_eq_some_iff.1 hm).1
    rw [List.getElem?_map] at hm
    cases hr : R[k]? with
    | none => rw [hr] at hm; cases hm
    | some r =>
      rw [hr] at hm
      injection hm with hm
      subst hm
      obtain ⟨b', o', hA, hS, hcl⟩ := hcell (by rw [ncells_length]; rw [List.length_map] at hk; omega)
      injection hA with hA
      injection hA with h1 h2
      subst h1
      subst h2
      have hmem := List.mem_of_getElem? hr
      have ha := ncells_at hr
      refine Tree.mk [r] [r.n] (some ⟨b, o + k * 5, none⟩) (c - k) rfl (by simp; omega) ?_ (fun q hq => by simp at hq; subst hq; exact hat _ hmem) (fun q hq => by simp at hq; subst hq; exact hkids _ hmem)
      intro _
      refine ⟨b, o + k * 5, rfl, hS, fun j u hj => ?_⟩
      rw [show ncells [r] = ncells1 r by simp [ncells]] at hj
      rw [Nat.add_assoc]
      apply hcl
      match j, hj with
      | 0, hj => simp [ncells1] at hj; subst hj; exact ha.1
      | 1, hj => simp [ncells1] at hj; subst hj; exact ha.2.1
      | 2, hj => simp [ncells1] at hj; subst hj; exact ha.2.2.1
      | 3, hj => simp [ncells1] at hj; subst hj; exact ha.2.2.2.1
      | 4, hj => simp [ncells1] at hj; subst hj; exact ha.2.2.2.2
      | j + 5, hj => simp [ncells1] at hj

end Go.Proofs.YthmnnalamaponaaGreat

/- Part Par8J. -/
namespace Go.Proofs.YthmnnalamaponaaGreat
open Go.RowKit
set_option linter.unusedVariables false

theorem sides_app (y : List Nd) : ∀ (x : List Nd) (b : Bool), sides b x → (∀ m n, x.getLast? = some m → y.head? = some n → ¬ (m.kind = 2 ∧ n.kind = 2)) → (x = [] → sides b y) → sides false y → sides b (x ++ y)
  | [], b, _, _, h0, _ => h0 rfl
  | n :: l, b, h, hs, _, hy => by
    refine ⟨h.1, sides_app y l _ h.2 ?_ ?_ hy⟩
    · intro m k hm hk
      refine hs m k ?_ hk
      cases l with
      | nil => cases hm
      | cons z l => rw [List.getLast?_cons_cons]; exact hm
    · intro hl
      subst hl
      by_cases h2 : n.kind = 2
      · cases y with
        | nil => trivial
        | cons z y =>
          refine ⟨fun hz => ?_, hy.2⟩
          exact absurd ⟨h2, hz⟩ (hs n z rfl rfl)
      · rw [show (n.kind == 2) = false by simp [h2]]
        exact hy
theorem good_app {x y : List Nd} (hx : GoodL x) (hy : GoodL y) (hs : ∀ m n, x.getLast? = some m → y.head? = some n → ¬ (m.kind = 2 ∧ n.kind = 2)) : GoodL (x ++ y) := by
  refine .mk _ (fun n hn => ?_) (sides_app y x false hx.sides_ hs (fun _ => hy.sides_) hy.sides_) (fun n hn => ?_)
  · rcases List.mem_append.1 hn with h | h
    · exact hx.nodes n h
    · exact hy.nodes n h
  · rcases List.mem_append.1 hn with h | h
    · exact hx.kids n h
    · exact hy.kids n h
theorem st_app {x y : List Nd} (hx : stL x = true) (hy : stL y = true) : stL (x ++ y) = true := by
  rw [stL_all] at hx hy ⊢
  rw [List.all_append, hx, hy]
  rfl

theorem join8_x {w w1 w2 : World} {X : List Nd} {vx : Value} (hX : Tree (fun b => w.heap.size ≤ b ∧ b < w1.heap.size) w1 X vx) (hb2 : Below w1.heap.size w1 w2) : Tree (Sub w.heap.size w2 (.slice none 0 0)) w2 X vx :=
  (hX.keep (Kept.belowB hb2 fun b hb => hb.2)).mono fun b hb => ⟨hb.1, Nat.lt_of_lt_of_le hb.2 hb2.size, by simp [Value.ownBlock]⟩
theorem join8_y {w w1 w2 w3 : World} {X Y : List Nd} {vy v3 : Value} (hY : Tree (fun b => w1.heap.size ≤ b ∧ b < w2.heap.size) w2 Y vy) (hs : w.heap.size ≤ w1.heap.size) (hB3 : OwnC w3 w2.heap.size w.heap.size X v3) (hg3 : w2.grownBy w3 none) :
    Tree (Sub w.heap.size w3 v3) w3 Y vy := by
  refine (hY.keep (Kept.grown hg3 fun b hb => ⟨hb.2, by simp⟩)).mono fun b hb => ⟨by omega, Nat.lt_of_lt_of_le hb.2 hg3.size, fun e => ?_⟩
  have := (OwnT.lt hB3 b e).1
  omega
theorem join8_w {w w1 w2 w3 w4 : World} {X Y : List Nd} {vx vy v3 v4 : Value} (hX : Tree (fun b => w.heap.size ≤ b ∧ b < w1.heap.size) w1 X vx) (hY : Tree (fun b => w1.heap.size ≤ b ∧ b < w2.heap.size) w2 Y vy) (hb1 : Below w.heap.size w w1) (hb2 : Below w1.heap.size w1 w2)
    (hB3 : OwnC w3 w2.heap.size w.heap.size X v3) (hg3 : w2.grownBy w3 none) (hB4 : OwnC w4 w2.heap.size w.heap.size (X ++ Y) v4) (hg4 : w3.grownBy w4 v3.ownBlock) :
    Below w.heap.size w w4 ∧ Tree (· < w4.heap.size) w4 X vx ∧ Tree (· < w4.heap.size) w4 Y vy ∧ Tree (· < w4.heap.size) w4 (X ++ Y) v4 := by
  have h24 : Below w2.heap.size w2 w4 := ((Below.refl w2.heap.size w2).grown hg3 (Nat.le_refl _) (by intro k h; cases h)).grown hg4 hg3.size (fun k hk => (OwnT.lt hB3 k hk).1)
  have lo : w.heap.size ≤ w2.heap.size := Nat.le_trans hb1.size hb2.size
  have tX : Tree (· < w4.heap.size) w4 X vx := (((hX.keep (Kept.belowB hb2 fun b hb => hb.2)).mono fun b hb => (Nat.lt_of_lt_of_le hb.2 hb2.size : b < w2.heap.size)).stay h24).mono fun b (hb : b < w2.heap.size) => Nat.lt_of_lt_of_le hb h24.size
  have tY : Tree (· < w4.heap.size) w4 Y vy := ((hY.mono fun b hb => hb.2).stay h24).mono fun b (hb : b < w2.heap.size) => Nat.lt_of_lt_of_le hb h24.size
  have tB : Tree (· < w4.heap.size) w4 (X ++ Y) v4 := (hB4.tree lo).mono fun b hb => hb.2
  exact ⟨below_after (below_after hb1 hb2) h24, tX, tY, tB⟩

/-- What the law asks for behind both appends. -/
structure J8 (X Y : List Nd) (vx vy v4 : Value) (w4 : World) : Prop where
  ex : ∃ s1 s2 : ByteArray, s1.size ≤ 480000 ∧ s2.size ≤ 480000 ∧
    (∀ W, Below w4.heap.size w4 W → Calls Tryz.prog 17 #[vx] W fun e w' => e = .returned (.string s1) ∧ Below w4.heap.size w4 w') ∧
    (∀ W, Below w4.heap.size w4 W → Calls Tryz.prog 17 #[vy] W fun e w' => e = .returned (.string s2) ∧ Below w4.heap.size w4 w') ∧
    (∀ W, Below w4.heap.size w4 W → Calls Tryz.prog 16 #[.string (s1 ++ s2)] W fun e w' => ∃ v', e = .returned v' ∧ Below w4.heap.size w4 w' ∧
      (Calls Tryz.prog 10 #[v', v4] w' fun e w'' => e = .returned (.bool true) ∧ Below w4.heap.size w4 w''))
theorem j8_of {X Y : List Nd} {vx vy v4 : Value} {w4 : World} (HT : TextSaid) (HGB : Glob w4) (tX : Tree (· < w4.heap.size) w4 X vx) (tY : Tree (· < w4.heap.size) w4 Y vy) (tB : Tree (· < w4.heap.size) w4 (X ++ Y) v4)
    (gX : GoodL X) (gY : GoodL Y) (sX : stL X = true) (sY : stL Y = true) (zX : szL X ≤ 67200) (zY : szL Y ≤ 67200) (hs : ∀ m n, X.getLast? = some m → Y.head? = some n → ¬ (m.kind = 2 ∧ n.kind = 2)) : J8 X Y vx vy v4 w4 := by
  have lX := txt_len X false
  have lY := txt_len Y false
  have k : ∀ W, Below w4.heap.size w4 W → ∀ b, b < w4.heap.size → b < W.heap.size := fun W h b hb => Nat.lt_of_lt_of_le hb h.size
  have hbl : ∀ l : List UInt8, (⟨l.toArray⟩ : ByteArray).size = l.length := fun l => by simp [ByteArray.size]
  have hgA := good_app gX gY hs
  have hsA := st_app sX sY
  have hzA : szL (X ++ Y) ≤ 1000000 := by rw [szL_append]; omega
  refine ⟨⟨(txtL false X).toArray⟩, ⟨(txtL false Y).toArray⟩, by rw [hbl]; omega, by rw [hbl]; omega, fun W h => ?_, fun W h => ?_, fun W h => ?_⟩
  · refine (textR4_any _ X vx W (tX.stay h) (k W h) (by omega)).mono ?_
    rintro e w' ⟨s, rfl, hs, hb⟩
    refine ⟨?_, below_after h hb⟩
    have : s = ⟨(txtL false X).toArray⟩ := by rw [← hs]
    rw [this]
  · refine (textR4_any _ Y vy W (tY.stay h) (k W h) (by omega)).mono ?_
    rintro e w' ⟨s, rfl, hs, hb⟩
    refine ⟨?_, below_after h hb⟩
    have : s = ⟨(txtL false Y).toArray⟩ := by rw [← hs]
    rw [this]
  · have hcat : ((⟨(txtL false X).toArray⟩ : ByteArray) ++ ⟨(txtL false Y).toArray⟩).data.toList = txtL false (X ++ Y) := by rw [txtL_append]; simp [ByteArray.data_append]
    refine (HT _ W (HGB.below h) (by rw [hcat]; exact rt_txt _ hgA false) (by rw [ByteArray.size_append, hbl, hbl]; omega)).mono ?_
    rw [hcat, parse_write hgA hsA]
    rintro e w' ⟨v', rfl, ht, hb⟩
    refine ⟨v', rfl, below_after h hb, ?_⟩
    refine (sameR_any (X ++ Y) (X ++ Y) (fun b => b < w'.heap.size) (· < w4.heap.size) v' v4 w' ht (tB.stay (below_after h hb)) (fun b h => h) (k w' (below_after h hb)) hzA hzA).mono ?_
    rw [(sameL_iff _ _).2 rfl]
    rintro e w'' ⟨rfl, hb2⟩
    exact ⟨rfl, below_after (below_after h hb) hb2⟩

end Go.Proofs.YthmnnalamaponaaGreat

/- Part Par8K. -/
namespace Go.Proofs.YthmnnalamaponaaGreat
open Go.RowKit
set_option linter.unusedVariables false

/-- The ways ahead of the law's test. -/
theorem seam_ways (X Y : List Nd) (w1 : World) (A1 A2 : Option Addr) (c1 c2 : Nat) (hX : Tree (· < w1.heap.size) w1 X (.slice A1 X.length c1)) (hY : Tree (· < w1.heap.size) w1 Y (.slice A2 Y.length c2)) (nX nY : Nat) (h1 : X.length = nX) (h2 : Y.length = nY) :
    (nX = 0 ∧ ∀ m n, X.getLast? = some m → Y.head? = some n → ¬ (m.kind = 2 ∧ n.kind = 2)) ∨ (0 < nX ∧ nY = 0 ∧ ∀ m n, X.getLast? = some m → Y.head? = some n → ¬ (m.kind = 2 ∧ n.kind = 2)) ∨
    (0 < nX ∧ 0 < nY ∧ ∃ j b o d u, nX = j + 1 ∧ A1 = some ⟨b, o, none⟩ ∧ A2 = some ⟨d, u, none⟩ ∧ ∃ k1 k2, w1.cell? ⟨b, o + j * 5, none⟩ = some (.int .i64 k1) ∧ w1.cell? ⟨d, u, none⟩ = some (.int .i64 k2) ∧
      (¬ (k1 = 2 ∧ k2 = 2) → ∀ m n, X.getLast? = some m → Y.head? = some n → ¬ (m.kind = 2 ∧ n.kind = 2))) := by
  cases X with
  | nil =>
    left
    exact ⟨by rw [← h1]; rfl, fun m n h => by cases h⟩
  | cons x X =>
    right
    cases Y with
    | nil =>
      left
      exact ⟨by rw [← h1]; simp, by rw [← h2]; rfl, fun m n _ h => by cases h⟩
    | cons y Y =>
      right
      refine ⟨by rw [← h1]; simp, by rw [← h2]; simp, X.length, ?_⟩
      obtain ⟨b, o, c, hv, _, _, hcell⟩ := hX.open_ (by simp)
      obtain ⟨d, u, c', hv', _, _, hcell'⟩ := hY.open_ (by simp)
      injection hv with hA _ _
      injection hv' with hA' _ _
      obtain ⟨m, hm⟩ : ∃ m, (x :: X)[X.length]? = some m := ⟨_, List.getElem?_eq_getElem (by simp)⟩
      obtain ⟨va, vk, hat⟩ := hcell _ m hm
      obtain ⟨va', vk', hat'⟩ := hcell' 0 y rfl
      refine ⟨b, o, d, u, by rw [← h1]; simp, hA, hA', m.kind, y.kind, hat.c0, by simpa using hat'.c0, fun hn m' n' hm' hn' => ?_⟩
      have e1 : m' = m := by
        rw [List.getLast?_eq_getElem?] at hm'
        rw [show (x :: X).length - 1 = X.length by simp, hm] at hm'
        injection hm' with e
        exact e.symm
      have e2 : n' = y := by injection hn' with e; exact e.symm
      rw [e1, e2]
      exact hn

set_option maxHeartbeats 8000000 in
set_option maxRecDepth 100000 in
theorem parseJoins_end (HB : BytesSaid) (HK : KeepsSaid) (HTX : TextSaid) (la : List Nd) (va : Value) (lb : List Nd) (vb : Value) (w : World) (hTa : Tree (· < w.heap.size) w la va) (hFa : Fine la) (hTb : Tree (· < w.heap.size) w lb vb) (hFb : Fine lb) (HGB : Glob w) :
    Calls Tryz.prog 5 #[va, vb] w fun e w' => e = .returned (.bool true) ∧ Below w.heap.size w w' := by
  have HG1 := Lib.hid (goodR6_any la va w hTa hFa)
  have HG2 := Lib.hid (fun (W : World) (hb : Below w.heap.size w W) => goodR6_any lb vb W ((hTb.stay hb).mono fun b h => Nat.lt_of_lt_of_le h hb.size) hFb)
  clear hTa hFa hTb hFb
  go_enter Tryz.func5, Tryz.ntmps5
  go_wp2_with fail
  refine HG1.out.mono ?_
  rintro e w1 ⟨G1, vx, rfl, hX, hg1, hz1, hb1⟩
  go_wp2_with fail
  refine (HG2.out w1 hb1).mono ?_
  rintro e w2 ⟨G2, vy, rfl, hY, hg2, hz2, hb2⟩
  have hXz := Nat.le_trans (steady_sz G1) hz1
  have hYz := Nat.le_trans (steady_sz G2) hz2
  have hXok := steady_good hg1
  have hYok := steady_good hg2
  obtain ⟨X, hXe⟩ : ∃ X, steadyB G1 = X := ⟨_, rfl⟩
  obtain ⟨Y, hYe⟩ : ∃ Y, steadyB G2 = Y := ⟨_, rfl⟩
  rw [hXe] at hX hXz hXok
  rw [hYe] at hY hYz hYok
  clear hXe hYe hg1 hg2 hz1 hz2
  obtain ⟨A1, c1, rfl, hc1⟩ := hX.shape
  obtain ⟨A2, c2, rfl, hc2⟩ := hY.shape
  have lX := szL_len X
  have lY := szL_len Y
  have hWY := seam_ways X Y w2 A1 A2 c1 c2 (((hX.keep (Kept.belowB hb2 fun b hb => hb.2)).mono fun b hb => Nat.lt_of_lt_of_le hb.2 hb2.size)) (hY.mono fun b hb => hb.2) _ _ rfl rfl
  have hXs := join8_x hX hb2
  have hYs := fun (v3 : Value) (w3 : World) h1 h2 => join8_y (v3 := v3) (w3 := w3) (w := w) (X := X) hY hb1.size h1 h2
  have hJ := fun (v3 : Value) (w3 : World) h1 h2 (v4 : Value) (w4 : World) h3 h4 => join8_w (v3 := v3) (w3 := w3) (v4 := v4) (w4 := w4) (w := w) hX hY hb1 hb2 h1 h2 h3 h4
  obtain ⟨nX, hnX⟩ : ∃ n, X.length = n := ⟨_, rfl⟩
  obtain ⟨nY, hnY⟩ : ∃ n, Y.length = n := ⟨_, rfl⟩
  have hlX : nX ≤ 70000 := by omega
  have hlY : nY ≤ 70000 := by omega
  rw [hnX] at hWY hXs hJ
  rw [hnY] at hWY hYs hJ
  rw [hnX, hnY]
  have HXs := Lib.hid hXs
  have HYs := Lib.hid hYs
  have HJ := Lib.hid hJ
  have HNX := Lib.hid hnX
  have HNY := Lib.hid hnY
  have HB12 := Lib.hid (below_after hb1 hb2)
  have HJ8 := Lib.hid (fun (v4 : Value) (w4 : World) (hg : Glob w4) (tX : Tree (· < w4.heap.size) w4 X (.slice A1 nX c1)) (tY : Tree (· < w4.heap.size) w4 Y (.slice A2 nY c2)) (tB : Tree (· < w4.heap.size) w4 (X ++ Y) v4) hs => j8_of HTX hg tX tY tB hXok.1 hYok.1 hXok.2 hYok.2 hXz hYz hs)
  clear hX hY hXok hYok hXz hYz hb1 hb2 hXs hYs hJ hnX hnY lX lY hc1 hc2
  have hb0 := HB12.out
  have ways : (nX = 0 ∧ ∀ m n, X.getLast? = some m → Y.head? = some n → ¬ (m.kind = 2 ∧ n.kind = 2)) ∨
      (0 < nX ∧ nY = 0 ∧ ∀ m n, X.getLast? = some m → Y.head? = some n → ¬ (m.kind = 2 ∧ n.kind = 2)) ∨
      (∃ j b o d u k1 k2, A1 = some ⟨b, o, none⟩ ∧ A2 = some ⟨d, u, none⟩ ∧ nX = j + 1 ∧ 0 < nY ∧ w2.cell? ⟨b, o + j * 5, none⟩ = some (.int .i64 k1) ∧ w2.cell? ⟨d, u, none⟩ = some (.int .i64 k2) ∧
        ((k1 = 2 ∧ k2 = 2) ∨ (k1 ≠ 2 ∧ ∀ m n, X.getLast? = some m → Y.head? = some n → ¬ (m.kind = 2 ∧ n.kind = 2)) ∨ (k1 = 2 ∧ k2 ≠ 2 ∧ ∀ m n, X.getLast? = some m → Y.head? = some n → ¬ (m.kind = 2 ∧ n.kind = 2)))) := by
    rcases hWY with ⟨h, hs⟩ | ⟨h, h', hs⟩ | ⟨h, h', j, b, o, d, u, hj, rfl, rfl, k1, k2, q1, q2, hs⟩
    · exact .inl ⟨h, hs⟩
    · exact .inr (.inl ⟨h, h', hs⟩)
    · refine .inr (.inr ⟨j, b, o, d, u, k1, k2, rfl, rfl, hj, h', q1, q2, ?_⟩)
      by_cases h1 : k1 = 2
      · by_cases h2 : k2 = 2
        · exact .inl ⟨h1, h2⟩
        · exact .inr (.inr ⟨h1, h2, hs (fun h => h2 h.2)⟩)
      · exact .inr (.inl ⟨h1, hs (fun h => h1 h.1)⟩)
  clear hWY
  have hnn : (0 : Int) ≤ (nX : Int) ∧ (0 : Int) ≤ (nY : Int) := by omega
  rcases ways with ⟨rfl, hs⟩ | ⟨hX0, rfl, hs⟩ | ⟨j, b, o, d, u, k1, k2, rfl, rfl, hj, hY0, q1, q2, hk⟩
  case' inl =>
    have HSE := Lib.hid hs
    clear hs hnn
  case' inr.inl =>
    have HSE := Lib.hid hs
    have B1 : decide ((0 : Int) < (nX : Int)) = true := by simp; omega
    have i3 : (0 : Int) < (nX : Int) := by omega
    clear hs hnn
  case' inr.inr =>
    have e1 : (nX : Int) - 1 = (j : Int) := by omega
    have e2 : IntKind.i64.wrap (j : Int) = (j : Int) := IntWalk.i64_in _ (by omega)
    have i1 : (j : Int) < (nX : Int) := by omega
    have i2 : (0 : Int) ≤ (j : Int) := by omega
    have B1 : decide ((0 : Int) < (nX : Int)) = true := by simp; omega
    have B2 : decide ((0 : Int) < (nY : Int)) = true := by simp; omega
    have i3 : (0 : Int) < (nY : Int) := by omega
    clear hj
    rcases hk with ⟨rfl, rfl⟩ | ⟨hk1, hs⟩ | ⟨rfl, hk2, hs⟩
    rotate_left
    case' inr.inl =>
      have B3 : (k1 == 2) = false := by simp [hk1]
      have HSE := Lib.hid hs
      clear hk1
    case' inr.inr =>
      have B4 : (k2 == 2) = false := by simp [hk2]
      have HSE := Lib.hid hs
      clear hk2
  case inr.inr.inl =>
    go_wp2_with fail
    refine (lives8_any HB HK _ (HGB.below HB12.out)).mono ?_
    rintro e w9 ⟨rfl, hb9⟩
    go_wp2_with fail
    go_ret
    exact ⟨rfl, below_after HB12.out hb9⟩
  all_goals
    go_wp2_with (at_builtin; first
      | (refine wpList_append_tree rfl _ _ rfl w2.heap.size w.heap.size X v3 rfl hB3 Y _ rfl (HYs.out v3 w3 hB3 hg3) (by rw [HNX.out, HNY.out]; omega) hg3.size ?_; intro v4 w4 hB4 hg4)
      | (refine wpList_append_tree rfl _ _ rfl w2.heap.size w.heap.size [] (.slice none 0 0) rfl (OwnC.nil _ _ _) X _ rfl HXs.out (by rw [List.length_nil, HNX.out]; omega) (Nat.le_refl _) ?_; intro v3 w3 hB3 hg3))
    obtain ⟨hb4, tX4, tY4, tB4⟩ := HJ.out v3 w3 hB3 hg3 v4 w4 hB4 hg4
    obtain ⟨s1, s2, z1, z2, j1, j2, j3⟩ := (HJ8.out v4 w4 (HGB.below hb4) tX4 tY4 tB4 HSE.out).ex
    have J1 := Lib.hid j1
    have J2 := Lib.hid j2
    have J3 := Lib.hid j3
    have HB4 := Lib.hid hb4
    have hr4 := Below.refl w4.heap.size w4
    clear tX4 tY4 tB4 j1 j2 j3 hB3 hg3 hB4 hg4 hb4 hb0
    refine (J1.out w4 hr4).mono ?_
    rintro e w5 ⟨rfl, h5⟩
    go_wp2_with fail
    refine (J2.out w5 h5).mono ?_
    rintro e w6 ⟨rfl, h6⟩
    go_wp2_with fail
    refine (J3.out w6 h6).mono ?_
    rintro e w7 ⟨v7, rfl, h7, h8⟩
    have J8 := Lib.hid h8
    clear h8
    go_wp2_with fail
    refine J8.out.mono ?_
    rintro e w8 ⟨rfl, h8⟩
    go_wp2_with fail
    refine (lives8_any HB HK _ (HGB.below (below_after HB4.out h8))).mono ?_
    rintro e w9 ⟨rfl, hb9⟩
    go_wp2_with fail
    go_ret
    exact ⟨rfl, below_after HB4.out (below_after h8 hb9)⟩

end Go.Proofs.YthmnnalamaponaaGreat

/- Part Par8Z. -/
namespace Go.Proofs.YthmnnalamaponaaGreat
open Go.RowKit
set_option linter.unusedVariables false

theorem parseMay_whole (A : Option Addr) (n c : Nat) (l : List UInt8) (w : World) (hs : Sits w w.heap.size A (Lib.byteCells l)) (hn : n = l.length) (hc : n ≤ c) (hm : n ≤ maxLen) (HGB : Glob w) :
    Calls Tryz.prog 4 #[.slice A n c] w fun e w' => e = .returned (.bool true) ∧ Below w.heap.size w w' := parseMay_end bytes8_said keeps8_said A n c l w hs hn hc hm HGB
theorem parseKeeps_whole (l : List Nd) (v : Value) (w : World) (hT : Tree (· < w.heap.size) w l v) (hF : Fine l) (HGB : Glob w) :
    Calls Tryz.prog 3 #[v] w fun e w' => e = .returned (.bool true) ∧ Below w.heap.size w w' := parseKeeps_end bytes8_said keeps8_said again8_said l v w hT hF HGB
theorem parseJoins_whole (la : List Nd) (va : Value) (lb : List Nd) (vb : Value) (w : World) (hTa : Tree (· < w.heap.size) w la va) (hFa : Fine la) (hTb : Tree (· < w.heap.size) w lb vb) (hFb : Fine lb) (HGB : Glob w) :
    Calls Tryz.prog 5 #[va, vb] w fun e w' => e = .returned (.bool true) ∧ Below w.heap.size w w' := parseJoins_end bytes8_said keeps8_said text8_said la va lb vb w hTa hFa hTb hFb HGB

end Go.Proofs.YthmnnalamaponaaGreat

/- Part Open. -/
namespace Go.Proofs.YthmnnalamaponaaGreat
open Go.RowKit Go.ChangeShapes Go.WideShapes Go.ChangeAt
set_option linter.unusedVariables false

theorem knob : ownKnob Tryz.prog.godebug = none := by kernel_rfl
theorem outlay : laidOutB Tryz.prog = true := by kernel_rfl

theorem cell_lt {w : World} {p : Addr} {v : Value} (h : w.cell? p = some v) : p.block < w.heap.size := by
  rcases Nat.lt_or_ge p.block w.heap.size with hlt | hge
  · exact hlt
  · unfold World.cell? at h
    rw [Array.getElem?_eq_none hge] at h
    cases h

/-- A row of integers as the reading of an argument gives it, in the walks' words. -/
theorem row_sits {w : World} {x : Addr} {k : IntKind} {len : Nat} {zs : List Int} (hl : len ≤ zs.length) (hcell : ∀ i, i < zs.length → w.cell? (x.add i) = some (.int k (zs.getD i 0))) :
    Sits w w.heap.size (some x) ((zs.take len).map (Value.int k)) := by
  intro hp
  rw [List.length_map, List.length_take] at hp
  have hc0 := hcell 0 (by omega)
  have hs : x.spot = none := by simpa [Addr.add] using World.cell?_spot hc0
  obtain ⟨b, o, sp⟩ := x
  simp only at hs
  subst hs
  refine ⟨b, o, rfl, by simpa [Addr.add] using cell_lt hc0, fun j u hu => ?_⟩
  rw [List.getElem?_map, List.getElem?_take] at hu
  split at hu
  · rename_i hj
    have hcj := hcell j (by omega)
    have e : (⟨b, o, none⟩ : Addr).add j = ⟨b, o + j, none⟩ := by
      unfold Addr.add
      split
      · rename_i h0; subst h0; rfl
      · rfl
    rw [e] at hcj
    rw [hcj]
    rw [List.getD_eq_getElem?_getD]
    cases hz : zs[j]? with
    | none => rw [hz] at hu; cases hu
    | some z => rw [hz] at hu; simpa using hu
  · cases hu

theorem open_bytes {H : Type} {enc : TypeId × Value → H} {w : World} {base : Nat} {spare : Nat → Bool} {held : Bool} {fuel len cap : Nat} {a : Option Addr} {x : DataW H × List MemPlace}
    (h : DataW.trod enc Tryz.prog w base spare held fuel 27 [.slice a len cap] = some x) (hsp : ∀ b, spare b = true) :
    ∃ l : List UInt8, len = l.length ∧ len ≤ cap ∧ len ≤ maxLen ∧ Sits w w.heap.size a (Lib.byteCells l) := by
  rcases open_ints Tryz.underlying27 Tryz.underlying5 (by kernel_rfl) h with ⟨hcs, _⟩ | ⟨y, l, c, zs, hcs, _, hl, hm, hz, _, hcell, hwz⟩
  · simp at hcs
    obtain ⟨rfl, rfl, rfl⟩ := hcs
    exact ⟨[], rfl, Nat.le_refl _, by unfold maxLen; omega, Sits.nil _ _ _⟩
  · simp at hcs
    obtain ⟨rfl, rfl, rfl⟩ := hcs
    rw [hsp, if_pos rfl] at hz
    refine ⟨(zs.take len).map fun n => UInt8.ofNat n.toNat, by simp; omega, hl, by omega, ?_⟩
    have hs := row_sits (len := len) (by omega) hcell
    have e : Lib.byteCells ((zs.take len).map fun n => UInt8.ofNat n.toNat) = (zs.take len).map (Value.int .u8) := by
      unfold Lib.byteCells
      rw [List.map_map]
      apply List.map_congr_left
      intro n hn
      have hb := bounds_u8 (hwz n (List.mem_of_mem_take hn))
      simp
      omega
    rw [e]
    exact hs

theorem open_runes {H : Type} {enc : TypeId × Value → H} {w : World} {base : Nat} {spare : Nat → Bool} {held : Bool} {fuel len cap : Nat} {a : Option Addr} {x : DataW H × List MemPlace}
    (h : DataW.trod enc Tryz.prog w base spare held fuel 68 [.slice a len cap] = some x) (hsp : ∀ b, spare b = true) :
    ∃ l : List Int, len = l.length ∧ len ≤ cap ∧ len ≤ maxLen ∧ (∀ r ∈ l, -2147483648 ≤ r ∧ r ≤ 2147483647) ∧ Sits w w.heap.size a (rcells l) := by
  rcases open_ints Tryz.underlying68 Tryz.underlying21 (by kernel_rfl) h with ⟨hcs, _⟩ | ⟨y, l, c, zs, hcs, _, hl, hm, hz, _, hcell, hwz⟩
  · simp at hcs
    obtain ⟨rfl, rfl, rfl⟩ := hcs
    exact ⟨[], rfl, Nat.le_refl _, by unfold maxLen; omega, (fun r hr => by cases hr), Sits.nil _ _ _⟩
  · simp at hcs
    obtain ⟨rfl, rfl, rfl⟩ := hcs
    rw [hsp, if_pos rfl] at hz
    exact ⟨zs.take len, by simp; omega, hl, by omega, fun r hr => bounds_i32 (hwz r (List.mem_of_mem_take hr)), row_sits (len := len) (by omega) hcell⟩

end Go.Proofs.YthmnnalamaponaaGreat

/- Part GlbO. -/
namespace Go.Proofs.YthmnnalamaponaaGreat
open Go.RowKit
set_option linter.unusedVariables false

theorem glob_of {w : World} (h : w.ShapedOpen Tryz.prog) : Glob w := Go.Proofs.cell_of_shapedOpen_int (zero := #[.int .i64 0]) (t := 3) h (of_decide_eq_true (by kernel_rfl)) (by kernel_rfl) rfl (by kernel_rfl) (by kernel_rfl) Tryz.underlying3

end Go.Proofs.YthmnnalamaponaaGreat
