/- Parts of the proof, in build order: TreeA TextR RightR NamR ValR EndR Out. -/
import Derived.Test.YthmnnalamaponaaGreatK05
import Derived.Test.YthmnnalamaponaaGreatK01
import Derived.Test.YthmnnalamaponaaGreatK04
import Derived.Test.YthmnnalamaponaaGreatK02
import Derived.Lib.OthersKept

/- Part TreeA. -/
namespace Go.Proofs.YthmnnalamaponaaGreat
open Go.RowKit
set_option linter.unusedVariables false

theorem info_node : (Tryz.prog.info? 35).map (fun i => (i.zero, i.size, i.bytes)) = some (some (.agg #[.int .i64 0, .string ⟨#[]⟩, .slice none 0 0, .string ⟨#[]⟩, .slice none 0 0]), 5, 88) := by kernel_rfl
theorem info_attr : (Tryz.prog.info? 39).map (fun i => (i.zero, i.size, i.bytes)) = some (some (.agg #[.string ⟨#[]⟩, .string ⟨#[]⟩]), 2, 32) := by kernel_rfl

/-- The blocks from lo on that there are, but v's own. -/
def Sub (lo : Nat) (w : World) (v : Value) (b : Nat) : Prop := lo ≤ b ∧ b < w.heap.size ∧ v.ownBlock ≠ some b
/-- A list of nodes of the call's own: what hangs on them lies anywhere from block lo on, but in its own row. -/
def OwnC (w : World) (base lo : Nat) (l : List Nd) (v : Value) : Prop := OwnT w base (Sub lo w v) l v

theorem OwnC.nil (w : World) (base lo : Nat) : OwnC w base lo [] (.slice none 0 0) := OwnT.nil _ _ _

theorem OwnT.later {w w' : World} {base : Nat} {S S' : Nat → Prop} {l : List Nd} {v : Value} (h : OwnT w base S l v) (hb : Below w.heap.size w w') (hS : ∀ b, S b → b < w.heap.size) (hSS : ∀ b, S b → S' b) (hv : ∀ g, v.ownBlock = some g → ¬ S' g) : OwnT w' base S' l v := by
  obtain ⟨R, hl, hown, hat, hk, hn⟩ := h
  have kp : Kept S w w' := Kept.below hb hS
  exact ⟨R, hl, own_below hown hb, fun r hr => ((hat r hr).keep kp).mono hSS, fun r hr => ((hk r hr).keep kp).mono hSS, hv⟩
/-- It stays, behind a call that only makes new blocks. -/
theorem OwnC.later {w w' : World} {base lo : Nat} {l : List Nd} {v : Value} (h : OwnC w base lo l v) (hb : Below w.heap.size w w') : OwnC w' base lo l v :=
  OwnT.later h hb (fun b hs => hs.2.1) (fun b hs => ⟨hs.1, Nat.lt_of_lt_of_le hs.2.1 hb.size, hs.2.2⟩) (fun g hg hs => hs.2.2 hg)
theorem OwnC.tree {w : World} {base lo : Nat} {l : List Nd} {v : Value} (h : OwnC w base lo l v) (hlo : lo ≤ base) : Tree (fun b => lo ≤ b ∧ b < w.heap.size) w l v := by
  have hlt := OwnT.lt h
  refine (OwnT.tree h).mono fun b hb => ?_
  rcases hb with hb | hb
  · exact ⟨hb.1, hb.2.1⟩
  · have := hlt b hb
    exact ⟨by omega, this.2⟩

/-- One node more, at an operation. -/
theorem wp_append_node {w : World} {o : Oper} {a : Act} {K : Act → World → Prop} {Q : Exit → Act → World → Prop} (s x : Operand)
    (ho : o.op = .call { callee := .builtin .append, args := #[s, x], argTypes := #[22, 22] })
    (base lo : Nat) (l : List Nd) (v : Value) (hs : a.eval s = v) (h : OwnC w base lo l v) (r : Rn) (ad : Addr) (c : Nat) (hx : a.eval x = .slice (some ad) 1 c)
    (hnews : ∀ j u, (ncells1 r)[j]? = some u → w.cell? (ad.add j) = some u) (hat : AttrsAt (Sub lo w v) w r.n.attrs r.va) (hk : Tree (Sub lo w v) w r.n.kids r.vk)
    (hlen : l.length ≤ 1000000) (hbase : base ≤ w.heap.size)
    (hK' : ∀ v' w', OwnC w' base lo (l ++ [r.n]) v' → w.grownBy w' v.ownBlock → K (a.put o.dst v') w') :
    Oper.wp Tryz.prog o a w K Q := by
  obtain ⟨i0, hi, hz0, hz1, hz2⟩ := info_parts info_node
  obtain ⟨R, rfl, hown, hat0, hk0, hn⟩ := h
  rw [List.length_map] at hlen
  obtain ⟨A1, c1, hva, _⟩ := id hat
  obtain ⟨A2, c2, hvk, _⟩ := hk.shape
  have h1 : ∀ u ∈ ncells1 r, u.oneCell' = true := by
    intro u hu
    simp only [ncells1, List.mem_cons, List.not_mem_nil, or_false] at hu
    rcases hu with rfl | rfl | rfl | rfl | rfl
    · rfl
    · rfl
    · rw [hva]; rfl
    · rfl
    · rw [hvk]; rfl
  obtain ⟨v', w', hrun, own', hgr, hnew⟩ := run_append_new (w := w) base 22 o.type 35 i0 _ 5 88 Tryz.underlying22 hi hz0 hz1 hz2 rfl (by decide) v R.length (ncells R) hown ad 1 c (ncells1 r) rfl hnews h1 (by unfold maxLen; omega) (by omega) hbase
  unfold Oper.wp
  simp [execOp, ho, resolve, invoke, builtin, hs, hx, hrun, Result.andThen]
  have hSS : ∀ b, Sub lo w v b → Sub lo w' v' b := by
    intro b hb
    refine ⟨hb.1, Nat.lt_of_lt_of_le hb.2.1 hgr.size, ?_⟩
    rcases hnew with e | e
    · rw [e]; exact hb.2.2
    · intro hg
      have := e b hg
      have := hb.2.1
      omega
  have kp : Kept (Sub lo w v) w w' := Kept.grown hgr fun b hb => ⟨hb.2.1, fun e => hb.2.2 e.symm⟩
  refine (hK' v' w' ⟨R ++ [r], by simp, ?_, ?_, ?_, fun g hg hs => hs.2.2 hg⟩ hgr)
  · rw [List.length_append, ncells_append]
    have : ncells [r] = ncells1 r := by simp [ncells]
    rw [this]
    exact own'
  · intro q hq
    rcases List.mem_append.1 hq with hq | hq
    · exact ((hat0 q hq).keep kp).mono hSS
    · simp at hq
      subst hq
      exact (AttrsAt.keep hat kp).mono hSS
  · intro q hq
    rcases List.mem_append.1 hq with hq | hq
    · exact ((hk0 q hq).keep kp).mono hSS
    · simp at hq
      subst hq
      exact (hk.keep kp).mono hSS

/-- One node more. -/
theorem wpList_append_node {w : World} {ops : Array Oper} {rest : List Oper} {o : Oper} {a : Act} {Q : Exit → Act → World → Prop} (hgd : o.guard = none) (s x : Operand)
    (ho : o.op = .call { callee := .builtin .append, args := #[s, x], argTypes := #[22, 22] })
    (base lo : Nat) (l : List Nd) (v : Value) (hs : a.eval s = v) (h : OwnC w base lo l v) (r : Rn) (ad : Addr) (c : Nat) (hx : a.eval x = .slice (some ad) 1 c)
    (hnews : ∀ j u, (ncells1 r)[j]? = some u → w.cell? (ad.add j) = some u) (hat : AttrsAt (Sub lo w v) w r.n.attrs r.va) (hk : Tree (Sub lo w v) w r.n.kids r.vk)
    (hlen : l.length ≤ 1000000) (hbase : base ≤ w.heap.size)
    (hK : ∀ v' w', OwnC w' base lo (l ++ [r.n]) v' → w.grownBy w' v.ownBlock → wpList Tryz.prog ops Q rest (a.put o.dst v') w') :
    wpList Tryz.prog ops Q (o :: rest) a w := by
  exact wpList_plain hgd fun K hK' => wp_append_node s x ho base lo l v hs h r ad c hx hnews hat hk hlen hbase fun v' w' h1 h2 => hK' _ _ (hK v' w' h1 h2)

/-- One node more, at a step of a region that draws its order. -/
theorem step_append_node {w : World} {ops : Array Oper} {o : Oper} {a : Act} {K : Act → World → Prop} {Q : Exit → Act → World → Prop} {E : Prop} (hgd : o.guard = none) (s x : Operand)
    (ho : o.op = .call { callee := .builtin .append, args := #[s, x], argTypes := #[22, 22] })
    (base lo : Nat) (l : List Nd) (v : Value) (hs : a.eval s = v) (h : OwnC w base lo l v) (r : Rn) (ad : Addr) (c : Nat) (hx : a.eval x = .slice (some ad) 1 c)
    (hnews : ∀ j u, (ncells1 r)[j]? = some u → w.cell? (ad.add j) = some u) (hat : AttrsAt (Sub lo w v) w r.n.attrs r.va) (hk : Tree (Sub lo w v) w r.n.kids r.vk)
    (hlen : l.length ≤ 1000000) (hbase : base ≤ w.heap.size)
    (hK : ∀ v' w', OwnC w' base lo (l ++ [r.n]) v' → w.grownBy w' v.ownBlock → K (a.put o.dst v') w') :
    if Region.wanted o (yielded ops a.tmps) = true then Oper.wp Tryz.prog o a w K Q else E := by
  have hw : Region.wanted o (yielded ops a.tmps) = true := by simp [Region.wanted, hgd]
  rw [if_pos hw]
  exact wp_append_node s x ho base lo l v hs h r ad c hx hnews hat hk hlen hbase hK

theorem ncells_set (M : List Rn) (r : Rn) (t : ByteArray) : (ncells (M ++ [r])).set (M.length * 5 + 3) (.string t) = ncells (M ++ [⟨.mk r.n.kind r.n.name r.n.attrs t r.n.kids, r.va, r.vk⟩]) := by
  rw [ncells_append, ncells_append, List.set_append_right _ _ (by rw [ncells_length]; omega), ncells_length]
  rw [show M.length * 5 + 3 - M.length * 5 = 3 by omega]
  rfl

/-- A new node's cells, where they were laid. -/
theorem new_five (w : World) (t : TypeId) (r : Rn) : ∀ j u, (ncells1 r)[j]? = some u → (w.alloc (.cells #[.int .i64 r.n.kind, .string r.n.name, r.va, .string r.n.text, r.vk] t)).cell? ((⟨w.heap.size, 0, none⟩ : Addr).add j) = some u := by
  intro j u hj
  rw [add_zero_addr]
  match j, hj with
  | 0, hj => simp [ncells1] at hj; subst hj; simp
  | 1, hj => simp [ncells1] at hj; subst hj; simp
  | 2, hj => simp [ncells1] at hj; subst hj; simp
  | 3, hj => simp [ncells1] at hj; subst hj; simp
  | 4, hj => simp [ncells1] at hj; subst hj; simp
  | j + 5, hj => simp [ncells1] at hj

/-- What came in stays, while the call makes its own; its blocks are none of the call's own row. -/
theorem input_kept {w wr : World} {lo : Nat} {l : List Nd} {v : Value} (hb : Below w.heap.size w wr) (h : OwnC wr w.heap.size lo l v) (o : Obj) :
    Kept (fun b => lo ≤ b ∧ b < w.heap.size) w (wr.alloc o) ∧ ∀ b, (lo ≤ b ∧ b < w.heap.size) → Sub lo (wr.alloc o) v b := by
  refine ⟨Kept.belowB (hb.alloc hb.size _) fun b hb => hb.2, fun b hlt => ⟨hlt.1, ?_, fun e => ?_⟩⟩
  · have := hb.size
    simp
    omega
  · have := (OwnT.lt h b e).1
    omega

theorem OwnC.drew {w : World} {base lo : Nat} {l : List Nd} {v : Value} (h : OwnC w base lo l v) : OwnC w.drew base lo l v := h.later ((Below.refl _ _).drew)

theorem below_new (w : World) (o : Obj) : Below w.heap.size w (w.alloc o) := (Below.refl _ _).alloc (Nat.le_refl _) _

/-- The last node's cells. -/
theorem OwnC.last {w : World} {base lo n c : Nat} {A : Option Addr} {m : List Nd} {x : Nd} (h : OwnC w base lo (m ++ [x]) (.slice A n c)) :
    ∃ g, A = some ⟨g, 0, none⟩ ∧ n = m.length + 1 ∧ base ≤ g ∧ w.cell? ⟨g, m.length * 5, none⟩ = some (.int .i64 x.kind) ∧ w.cell? ⟨g, m.length * 5 + 3, none⟩ = some (.string x.text) ∧ w.frozen? ⟨g, m.length * 5 + 3, none⟩ = false := by
  obtain ⟨R, hl, hown, hat, hk, hn⟩ := h
  obtain ⟨A', c', hv, _⟩ := own_size hown
  have hnl : n = R.length := by injection hv
  subst hnl
  have hR : 0 < R.length := by
    have := congrArg List.length hl
    simp at this
    omega
  obtain ⟨M, r, rfl⟩ := snoc_of hR
  have hml : M.map Rn.n = m ∧ r.n = x := by
    rw [List.map_append] at hl
    have := List.append_inj' hl (by simp)
    exact ⟨this.1, by simpa using this.2⟩
  have hlen : m.length = M.length := by rw [← hml.1]; simp
  obtain ⟨g, rfl, hcells⟩ : ∃ g, A = some ⟨g, 0, none⟩ ∧ True := by
    rcases hown.2 with ⟨_, h0⟩ | ⟨g, cap, cur, hv, _⟩
    · simp at h0
    · injection hv with hA
      exact ⟨g, hA, trivial⟩
  have ha := ncells_at (R := M ++ [r]) (k := M.length) (r := r) (by simp)
  have hb := hown.lt g rfl
  rw [hlen]
  refine ⟨g, rfl, by simp, hb.1, ?_, ?_, ?_⟩
  · rw [hown.cellAt (M.length * 5) (by rw [List.length_append, List.length_singleton]; omega), ha.1, hml.2]
  · rw [hown.cellAt (M.length * 5 + 3) (by rw [List.length_append, List.length_singleton]; omega), ha.2.2.2.1, hml.2]
  · exact hown.frozenAt _

/-- The last node's text is another one. -/
theorem OwnC.text {w : World} {base lo g n c : Nat} {m : List Nd} {x : Nd} (h : OwnC w base lo (m ++ [x]) (.slice (some ⟨g, 0, none⟩) n c)) (t : ByteArray) :
    OwnC (w.setCell ⟨g, m.length * 5 + 3, none⟩ (.string t)) base lo (m ++ [.mk x.kind x.name x.attrs t x.kids]) (.slice (some ⟨g, 0, none⟩) n c) ∧ w.grownBy (w.setCell ⟨g, m.length * 5 + 3, none⟩ (.string t)) (some g) := by
  obtain ⟨R, hl, hown, hat, hk, hn⟩ := h
  obtain ⟨A, c', hv, _⟩ := own_size hown
  have hnl : n = R.length := by injection hv
  subst hnl
  have hR : 0 < R.length := by
    have := congrArg List.length hl
    simp at this
    omega
  obtain ⟨M, r, rfl⟩ := snoc_of hR
  have hml : M.map Rn.n = m ∧ r.n = x := by
    rw [List.map_append] at hl
    have := List.append_inj' hl (by simp)
    exact ⟨this.1, by simpa using this.2⟩
  have hlen : m.length = M.length := by rw [← hml.1]; simp
  have st := hown.stored (m.length * 5 + 3) (.string t)
  have hsz : (w.setCell ⟨g, m.length * 5 + 3, none⟩ (.string t)).heap.size = w.heap.size := by simp
  have kp : Kept (Sub lo w (.slice (some ⟨g, 0, none⟩) (M ++ [r]).length c)) w (w.setCell ⟨g, m.length * 5 + 3, none⟩ (.string t)) := Kept.grown st.2 fun b hb => ⟨hb.2.1, fun e => hb.2.2 (by injection e with e; subst e; rfl)⟩
  have hSS : ∀ b, Sub lo w (.slice (some ⟨g, 0, none⟩) (M ++ [r]).length c) b → Sub lo (w.setCell ⟨g, m.length * 5 + 3, none⟩ (.string t)) (.slice (some ⟨g, 0, none⟩) (M ++ [r]).length c) b := fun b hb => ⟨hb.1, by rw [hsz]; exact hb.2.1, hb.2.2⟩
  refine ⟨⟨M ++ [⟨.mk r.n.kind r.n.name r.n.attrs t r.n.kids, r.va, r.vk⟩], ?_, ?_, ?_, ?_, fun g hg hs => hs.2.2 hg⟩, st.2⟩
  · rw [List.map_append, hml.1, ← hml.2]
    rfl
  · have := st.1
    rw [hlen, ncells_set] at this
    rw [hlen]
    simpa using this
  · intro q hq
    rcases List.mem_append.1 hq with hq | hq
    · exact ((hat q (by simp [hq])).keep kp).mono hSS
    · simp at hq
      subst hq
      exact ((hat r (by simp)).keep kp).mono hSS
  · intro q hq
    rcases List.mem_append.1 hq with hq | hq
    · exact ((hk q (by simp [hq])).keep kp).mono hSS
    · simp at hq
      subst hq
      exact ((hk r (by simp)).keep kp).mono hSS

end Go.Proofs.YthmnnalamaponaaGreat

/- Part TextR. -/
namespace Go.Proofs.YthmnnalamaponaaGreat
open Go.RowKit
set_option linter.unusedVariables false

set_option maxHeartbeats 1000000 in
set_option maxRecDepth 100000 in
theorem textR_any (A : Option Addr) (c : Nat) (l : List Int) (w : World) (hs : Sits w w.heap.size A (rcells l)) (hc : l.length ≤ c) (hm : l.length ≤ 1000000) (h32 : i32s l) :
    Calls Tryz.prog 49 #[.slice A l.length c] w fun e w' => e = .returned (.string ⟨(enc l).toArray⟩) ∧ Below w.heap.size w w' := by
  obtain ⟨i0, hi, hz0, hz1, hz2⟩ := info_parts info_byte
  have HS := Lib.hid hs
  have H32 := Lib.hid h32
  clear hs h32
  go_enter Tryz.func49, Tryz.ntmps49
  go_wp2
  go_loopw [3, 4] (fun v i wr => ∃ (k : Nat) (acc : List UInt8), k ≤ l.length ∧ i = .int .i64 k ∧ Hid (enc l = acc ++ enc (l.drop k)) ∧ acc.length ≤ 4 * k ∧ wr.ownsRow w.heap.size 5 1 v acc.length (Lib.byteCells acc) ∧ Below w.heap.size w wr) (fun _ i _ => l.length - (intOf i).toNat)
  case atStart => exact ⟨0, [], by omega, rfl, Lib.hid (by simp), by simp, World.ownsRow_nil _ _ _ _, Below.refl _ _⟩
  case round =>
    obtain ⟨k, acc, hk, rfl, HR, hal, hown, hbel⟩ := hrel
    by_cases hlt : k < l.length
    · obtain ⟨b, o, rfl, hb, hcell⟩ := HS.out.open_ (by rw [rcells_length]; omega)
      obtain ⟨x, hx⟩ : ∃ x, l[k]? = some x := ⟨_, List.getElem?_eq_getElem hlt⟩
      have q1 : wr.cell? ⟨b, o + k, none⟩ = some (.int .i32 x) := (hbel.cell (p := ⟨b, o + k, none⟩) hb).trans (hcell k _ (by simp [rcells, hx]))
      have hx32 := i32s_at H32.out hx
      have HX := Lib.hid hx
      clear hcell hx
      go_wp2_with fail
      refine (bytes_any x wr hx32.1 hx32.2).mono ?_
      rintro e w1 ⟨A1, c1, rfl, hcc, hown1, hb1⟩
      have hl4 := Lib.runeCells_le x
      rw [Lib.runeCells_length] at hl4
      obtain ⟨g, rfl, hnews⟩ := own_addr hown1 (by omega)
      have hown2 := own_below hown hb1
      have hB1 := below_after hbel hb1
      clear hown1 hown hb1 q1
      obtain ⟨m, hm'⟩ : ∃ m, m = (Lib.encodeRune x).length := ⟨_, rfl⟩
      rw [← hm'] at hcc hl4 ⊢
      have HM := Lib.hid hm'
      clear hm'
      go_wp2_with (at_builtin; refine wpList_append_own _ rfl _ _ 27 rfl w.heap.size 5 i0 (.int .u8 0) 1 1 Tryz.underlying27 hi hz0 hz1 hz2 rfl (by decide) _ _ _ rfl hown2 ⟨g, 0, none⟩ m c1 (Lib.byteCells (Lib.encodeRune x)) rfl (by rw [Lib.byteCells_length, HM.out]; omega) hnews (byteCells_one _) (by unfold maxLen; omega) (by omega) hB1.size ?_; intro v' w2 hown' hgrow _)
      have hB2 : Below w.heap.size w w2 := hB1.grown hgrow hB1.size (fun g hg => (hown2.lt g hg).1)
      clear hgrow hown2 hnews
      go_roundw
      case rel =>
        refine ⟨k + 1, acc ++ Lib.encodeRune x, by omega, by go_num, Lib.hid ?_, by have := HM.out; simp; omega, ?_, hB2⟩
        · rw [HR.out, drop_at HX.out, enc_cons, List.append_assoc]
        · rw [Lib.byteCells_append, List.length_append, ← HM.out]
          exact hown'
      case measure => simp [intOf]; omega
    · have hr : enc l = acc := by
        have := HR.out
        rw [List.drop_of_length_le (by omega), enc_nil, List.append_nil] at this
        exact this
      obtain ⟨A', c', rfl, hcc⟩ := own_shape hown
      have HRR := Lib.hid hr
      clear hr
      have kc := convert_bytes (A := A') (c := c') (B := wr.heap.size) (Sits.own hown)
      go_wp2
      go_ret
      rw [HRR.out]
      exact ⟨rfl, hbel⟩

end Go.Proofs.YthmnnalamaponaaGreat

/- Part RightR. -/
namespace Go.Proofs.YthmnnalamaponaaGreat
open Go.RowKit
set_option linter.unusedVariables false

/-- The character ahead of the k-th, or 0. -/
def prev (R : List Int) (k : Nat) : Int := if k = 0 then 0 else R.getD (k - 1) 0

theorem prev_zero (R : List Int) : prev R 0 = 0 := rfl
theorem prev_succ {R : List Int} {k : Nat} {x : Int} (h : R[k]? = some x) : prev R (k + 1) = x := by
  unfold prev
  rw [if_neg (by omega), Nat.add_sub_cancel, List.getD_eq_getElem?_getD, h]
  rfl

theorem okR_i32 {l : List Int} (h : ∀ r ∈ l, okR r) : i32s l := by
  intro r hr
  have := h r hr
  unfold okR at this
  omega

structure RightRAt (w1 wr : World) (R : List Int) (v : Value) (k : Nat) (acc : List Int) : Prop where
  le : k ≤ R.length
  is : norm 0 R = acc ++ norm (prev R k) (R.drop k)
  len : acc.length ≤ k
  own : wr.ownsRow w1.heap.size 21 1 v acc.length (rcells acc)
  bel : Below w1.heap.size w1 wr

/-- A character is appended. -/
theorem RightRAt.put {w1 wr w2 : World} {R : List Int} {v v' : Value} {k : Nat} {acc : List Int} {x y : Int} {o : Obj} (h : RightRAt w1 wr R v k acc) (hx : R[k]? = some x)
    (hn : ∀ t, norm (prev R k) (x :: t) = y :: norm x t) (hown : w2.ownsRow w1.heap.size 21 1 v' (acc.length + 1) (rcells acc ++ [.int .i32 y])) (hg : (wr.alloc o).grownBy w2 v.ownBlock) :
    RightRAt w1 w2 R v' (k + 1) (acc ++ [y]) := by
  have hk := (List.getElem?_eq_some_iff.1 hx).1
  refine ⟨by omega, ?_, by have := h.len; simp; omega, ?_, ?_⟩
  · rw [h.is, drop_at hx, hn, prev_succ hx, List.append_assoc]
    rfl
  · rw [rcells_append, List.length_append]
    exact hown
  · exact (h.bel.alloc h.bel.size _).grown hg (by have := h.bel.size; simp; omega) (fun g hg => (h.own.lt g hg).1)

/-- A character is passed over. -/
theorem RightRAt.pass {w1 wr : World} {R : List Int} {v : Value} {k : Nat} {acc : List Int} (h : RightRAt w1 wr R v k acc) (hx : R[k]? = some 10) (hp : prev R k = 13) : RightRAt w1 wr R v (k + 1) acc := by
  have hk := (List.getElem?_eq_some_iff.1 hx).1
  refine ⟨by omega, ?_, by have := h.len; omega, h.own, h.bel⟩
  rw [h.is, drop_at hx, hp, norm_10, prev_succ hx]

set_option maxHeartbeats 2000000 in
set_option maxRecDepth 100000 in
theorem rightR_any (A : Option Addr) (c : Nat) (l : List UInt8) (w : World) (hs : Sits w w.heap.size A (Lib.byteCells l)) (hc : l.length ≤ c) (hm : l.length ≤ 1000000) :
    Calls Tryz.prog 28 #[.slice A l.length c] w fun e w' => e = .returned (.string ⟨(right l).toArray⟩) ∧ Below w.heap.size w w' := by
  obtain ⟨i0, hi, hz0, hz1, hz2⟩ := info_parts info_rune
  have hrl := runes_len _ l (Nat.le_refl _)
  have hrok := runes_ok _ l (Nat.le_refl _)
  go_enter Tryz.func28, Tryz.ntmps28
  go_wp2_with fail
  refine (runesR_any A c l _ hs hc hm).mono ?_
  rintro e w1 ⟨A1, c1, rfl, hc1, hown1, hb1⟩
  have hsit := Lib.hid (Sits.own hown1)
  clear hown1 hs
  obtain ⟨R, hR⟩ : ∃ R, R = runes l := ⟨_, rfl⟩
  rw [← hR] at hc1 hsit hrl hrok ⊢
  have hfin : right l = enc (norm 0 R) := by rw [hR]; rfl
  have HF := Lib.hid hfin
  have HK := Lib.hid hrok
  clear hR hfin hrok
  go_wp2_with fail
  go_loopw [4, 5] (fun v i wr => ∃ (k : Nat) (acc : List Int), i = .int .i64 k ∧ RightRAt w1 wr R v k acc) (fun _ i _ => R.length - (intOf i).toNat)
  case atStart => exact ⟨0, [], rfl, by omega, by rw [prev_zero]; rfl, by simp, World.ownsRow_nil _ _ _ _, Below.refl _ _⟩
  case round =>
    obtain ⟨k, acc, rfl, HR⟩ := hrel
    have hle := HR.le
    have hlen := HR.len
    by_cases hlt : k < R.length
    · obtain ⟨b, o, rfl, hb, hcell⟩ := hsit.out.open_ (by rw [rcells_length]; omega)
      obtain ⟨x, hx⟩ : ∃ x, R[k]? = some x := ⟨_, List.getElem?_eq_getElem hlt⟩
      have q1 : wr.cell? ⟨b, o + k, none⟩ = some (.int .i32 x) := (HR.bel.cell (p := ⟨b, o + k, none⟩) hb).trans (hcell k _ (by simp [rcells, hx]))
      have HX := Lib.hid hx
      clear hx
      by_cases h10 : x = 10
      · subst h10
        by_cases hk0 : k = 0
        · have hkf : decide ((0 : Int) < (k : Int)) = false := by simp [hk0]
          have hkn : ¬ (0 : Int) < (k : Int) := by omega
          have HK0 := Lib.hid hk0
          clear hcell hk0
          go_wp2_with (at_builtin; refine wpList_append_own _ rfl _ _ 68 rfl w1.heap.size 21 i0 (.int .i32 0) 1 4 Tryz.underlying68 hi hz0 hz1 hz2 rfl (by decide) _ _ _ rfl (HR.own.alloc _) ⟨wr.heap.size, 0, none⟩ 1 1 [.int .i32 10] rfl rfl (new_one _ _ _) (by simp [Value.oneCell']) (by unfold maxLen; omega) (by omega) (by have := HR.bel.size; simp; omega) ?_; intro v' w2 hown' hgrow _)
          have HR2 := HR.put HX.out (fun t => by rw [HK0.out, prev_zero]; exact norm_r t (by omega) (by omega) (by omega)) hown' hgrow
          clear hgrow hown'
          go_roundw
          case rel => exact ⟨k + 1, acc ++ [10], by go_num, HR2⟩
          case measure => simp [intOf]; omega

        · have hkp : 0 < k := by omega
          have hkp' : (0 : Int) < (k : Int) := by omega
          obtain ⟨p, hp⟩ : ∃ p, R[k - 1]? = some p := ⟨_, List.getElem?_eq_getElem (by omega)⟩
          have hpr : prev R k = p := by
            unfold prev
            rw [if_neg hk0, List.getD_eq_getElem?_getD, hp]
            rfl
          have q2 : wr.cell? ⟨b, o + (k - 1), none⟩ = some (.int .i32 p) := (HR.bel.cell (p := ⟨b, o + (k - 1), none⟩) hb).trans (hcell (k - 1) _ (by simp [rcells, hp]))
          have HP := Lib.hid hpr
          clear hpr hp hcell
          have i1 : (0 : Int) ≤ (k : Int) - 1 := by omega
          have i2 : (k : Int) - 1 < (R.length : Int) := by omega
          by_cases h13 : p = 13
          · subst h13
            go_wp2
            go_roundw
            case rel => exact ⟨k + 1, acc, by go_num, HR.pass HX.out HP.out⟩
            case measure => simp [intOf]; omega
          · have B13 : (p == 13) = false := by simp [h13]
            go_wp2_with (at_builtin; refine wpList_append_own _ rfl _ _ 68 rfl w1.heap.size 21 i0 (.int .i32 0) 1 4 Tryz.underlying68 hi hz0 hz1 hz2 rfl (by decide) _ _ _ rfl (HR.own.alloc _) ⟨wr.heap.size, 0, none⟩ 1 1 [.int .i32 10] rfl rfl (new_one _ _ _) (by simp [Value.oneCell']) (by unfold maxLen; omega) (by omega) (by have := HR.bel.size; simp; omega) ?_; intro v' w2 hown' hgrow _)
            have HR2 := HR.put HX.out (fun t => by rw [HP.out]; exact norm_r t (by omega) (by omega) (by omega)) hown' hgrow
            clear hgrow hown'
            go_roundw
            case rel => exact ⟨k + 1, acc ++ [10], by go_num, HR2⟩
            case measure => simp [intOf]; omega

      · have B10 : (x == 10) = false := by simp [h10]
        clear hcell
        by_cases h13 : x = 13
        · subst h13
          go_wp2_with (at_builtin; refine wpList_append_own _ rfl _ _ 68 rfl w1.heap.size 21 i0 (.int .i32 0) 1 4 Tryz.underlying68 hi hz0 hz1 hz2 rfl (by decide) _ _ _ rfl (HR.own.alloc _) ⟨wr.heap.size, 0, none⟩ 1 1 [.int .i32 10] rfl rfl (new_one _ _ _) (by simp [Value.oneCell']) (by unfold maxLen; omega) (by omega) (by have := HR.bel.size; simp; omega) ?_; intro v' w2 hown' hgrow _)
          have HR2 := HR.put HX.out (fun t => norm_13 _ t) hown' hgrow
          clear hgrow hown'
          go_roundw
          case rel => exact ⟨k + 1, acc ++ [10], by go_num, HR2⟩
          case measure => simp [intOf]; omega

        · have B13 : (x == 13) = false := by simp [h13]
          by_cases h0 : x = 0
          · subst h0
            go_wp2_with (at_builtin; refine wpList_append_own _ rfl _ _ 68 rfl w1.heap.size 21 i0 (.int .i32 0) 1 4 Tryz.underlying68 hi hz0 hz1 hz2 rfl (by decide) _ _ _ rfl (HR.own.alloc _) ⟨wr.heap.size, 0, none⟩ 1 1 [.int .i32 65533] rfl rfl (new_one _ _ _) (by simp [Value.oneCell']) (by unfold maxLen; omega) (by omega) (by have := HR.bel.size; simp; omega) ?_; intro v' w2 hown' hgrow _)
            have HR2 := HR.put HX.out (fun t => norm_0 _ t) hown' hgrow
            clear hgrow hown'
            go_roundw
            case rel => exact ⟨k + 1, acc ++ [65533], by go_num, HR2⟩
            case measure => simp [intOf]; omega

          · have B0 : (x == 0) = false := by simp [h0]
            have HN := Lib.hid (fun (t : List Int) => norm_r (a := prev R k) (r := x) t h13 (by omega) h0)
            clear h13 h10 h0
            go_wp2_with (at_builtin; refine wpList_append_own _ rfl _ _ 68 rfl w1.heap.size 21 i0 (.int .i32 0) 1 4 Tryz.underlying68 hi hz0 hz1 hz2 rfl (by decide) _ _ _ rfl (HR.own.alloc _) ⟨wr.heap.size, 0, none⟩ 1 1 [.int .i32 x] rfl rfl (new_one _ _ _) (by simp [Value.oneCell']) (by unfold maxLen; omega) (by omega) (by have := HR.bel.size; simp; omega) ?_; intro v' w2 hown' hgrow _)
            have HR2 := HR.put HX.out HN.out hown' hgrow
            clear hgrow hown'
            go_roundw
            case rel => exact ⟨k + 1, acc ++ [x], by go_num, HR2⟩
            case measure => simp [intOf]; omega

    · have hr : norm 0 R = acc := by
        have := HR.is
        rw [List.drop_of_length_le (by omega)] at this
        simpa [norm] using this
      obtain ⟨A', c', rfl, hcc⟩ := own_shape HR.own
      have HRR := Lib.hid hr
      have hok : ∀ r ∈ acc, okR r := by
        intro r hr'
        rw [← hr] at hr'
        exact (norm_ok R 0 HK.out r hr').1
      have h32 := okR_i32 hok
      have hsit2 := Sits.own HR.own
      clear hr hok
      go_wp2_with fail
      refine (textR_any A' c' acc wr hsit2 hcc (by omega) h32).mono ?_
      rintro e w2 ⟨rfl, hb2⟩
      have hB2 := below_after (below_after hb1 HR.bel) hb2
      go_wp2
      go_ret
      rw [HF.out, HRR.out]
      exact ⟨rfl, hB2⟩

end Go.Proofs.YthmnnalamaponaaGreat

/- Part NamR. -/
namespace Go.Proofs.YthmnnalamaponaaGreat
open Go.RowKit
set_option linter.unusedVariables false

theorem eq_two (a b : ByteArray) : (a.toList == b.toList) = decide (a.data.toList = b.data.toList) := by
  rw [Lib.toList_data, Lib.toList_data]
  by_cases h : a.data.toList = b.data.toList
  · rw [h]; simp
  · rw [decide_eq_false h, beq_eq_false_iff_ne]
    exact h

set_option maxHeartbeats 1000000 in
theorem isR_any (s : ByteArray) (w : World) (hm : s.size ≤ 100000) :
    Calls Tryz.prog 43 #[.string s] w fun e w' => e = .returned (.bool (isB s.data.toList)) ∧ Below w.heap.size w w' := by
  have kb := fun (w : World) (s : ByteArray) => run_bytes_of_string (P := Tryz.prog) w 9 27 5 s Tryz.underlying9 Tryz.underlying27 Tryz.underlying5
  obtain ⟨l, hl⟩ : ∃ l, s.data.toList = l := ⟨_, rfl⟩
  have hlz : s.size = l.length := by rw [← hl]; simp
  have hrl := right_len l
  obtain ⟨r, hr⟩ : ∃ r, right l = r := ⟨_, rfl⟩
  obtain ⟨t, ht, htl, htz⟩ := str_of r
  obtain ⟨q, hq⟩ : ∃ q, isB l = q := ⟨_, rfl⟩
  have he : (t.toList == s.toList) = q := by rw [eq_two, htl, hl, ← hq, isB_iff, hr]
  rw [hl, hq]
  have HL := Lib.hid hl
  have HZ := Lib.hid hlz
  have HR := Lib.hid hr
  have HT := Lib.hid ht
  clear hl hr ht htl hq htz hlz
  go_enter Tryz.func43, Tryz.ntmps43
  go_wp2_with fail
  obtain ⟨w2, hw2, sits2, hb2⟩ := sits_conv (w := w) HL.out
  rw [hw2]
  have hcap := grownCap_ge w s.size 0 5
  rw [HZ.out] at hcap ⊢
  clear hw2
  refine (rightR_any _ _ l w2 sits2 hcap (by have := HZ.out; omega)).mono ?_
  rw [HR.out, HT.out]
  rintro e w3 ⟨rfl, hb3⟩
  have hB3 := below_after hb2 hb3
  clear hb2 hb3 sits2 hcap
  cases q with
  | true =>
    go_wp2_with fail
    go_ret
    exact ⟨rfl, hB3⟩
  | false =>
    go_wp2_with fail
    go_ret
    exact ⟨rfl, hB3⟩

/-- The first 30 bytes. -/
def few3S (s : ByteArray) : ByteArray := if 30 < s.size then s.extract 0 30 else s
theorem few3S_size (s : ByteArray) : (few3S s).size ≤ 30 := by
  unfold few3S
  split
  · rw [ByteArray.size_extract]; omega
  · omega

set_option maxHeartbeats 400000 in
theorem few3_any (s : ByteArray) (w : World) (hm : s.size ≤ maxLen) :
    Calls Tryz.prog 52 #[.string s] w fun e w' => e = .returned (.string (few3S s)) ∧ w = w' := by
  unfold maxLen at hm
  by_cases h : 30 < s.size
  · have hf := Lib.hid (show few3S s = s.extract 0 30 by unfold few3S; rw [if_pos h])
    go_enter Tryz.func52, Tryz.ntmps52
    go_wp2
    go_ret
    exact ⟨by rw [hf.out]; rfl, rfl⟩
  · have hf := Lib.hid (show few3S s = s by unfold few3S; rw [if_neg h])
    go_enter Tryz.func52, Tryz.ntmps52
    go_wp2
    go_ret
    exact ⟨by rw [hf.out]; rfl, rfl⟩

set_option maxHeartbeats 400000 in
theorem small3_any (c : UInt8) (w : World) :
    Calls Tryz.prog 64 #[.int .u8 c.toNat] w fun e w' => e = .returned (.bool (smC c)) ∧ w = w' := by
  by_cases h1 : 97 ≤ c.toNat
  · by_cases h2 : c.toNat ≤ 122
    · have hs := Lib.hid (show smC c = true by unfold smC; simp [h1, h2])
      have hd : decide ((c.toNat : Int) ≤ 122) = true := by simp; omega
      go_enter Tryz.func64, Tryz.ntmps64
      go_wp2
      go_ret
      exact ⟨by rw [hs.out]; rfl, rfl⟩
    · have hs := Lib.hid (show smC c = false by unfold smC; simp [h1]; omega)
      have hd : decide ((c.toNat : Int) ≤ 122) = false := by simp; omega
      go_enter Tryz.func64, Tryz.ntmps64
      go_wp2
      go_ret
      exact ⟨by rw [hs.out]; rfl, rfl⟩
  · have hs := Lib.hid (show smC c = false by unfold smC; simp; omega)
    go_enter Tryz.func64, Tryz.ntmps64
    go_wp2
    go_ret
    exact ⟨by rw [hs.out]; rfl, rfl⟩

theorem eqs (s : ByteArray) (l : List UInt8) : (s.toList == l) = decide (s.data.toList = l) := by
  rw [Lib.toList_data]
  by_cases h : s.data.toList = l
  · rw [h]; simp
  · rw [decide_eq_false h, beq_eq_false_iff_ne]
    exact h

set_option maxHeartbeats 400000 in
theorem rawR_any (s : ByteArray) (w : World) :
    Calls Tryz.prog 47 #[.string s] w fun e w' => e = .returned (.bool (rawB s.data.toList)) ∧ w = w' := by
  have h1 := eqs s [115, 99, 114, 105, 112, 116]
  have h2 := eqs s [115, 116, 121, 108, 101]
  obtain ⟨q1, e1⟩ : ∃ q, decide (s.data.toList = [115, 99, 114, 105, 112, 116]) = q := ⟨_, rfl⟩
  obtain ⟨q2, e2⟩ : ∃ q, decide (s.data.toList = [115, 116, 121, 108, 101]) = q := ⟨_, rfl⟩
  have HF := Lib.hid (show rawB s.data.toList = (q1 || q2) by unfold rawB; rw [e1, e2])
  rw [e1] at h1
  rw [e2] at h2
  clear e1 e2
  cases q1 <;> cases q2
  all_goals
    go_enter Tryz.func47, Tryz.ntmps47
    go_wp2
    go_ret
    exact ⟨by rw [HF.out]; rfl, rfl⟩

set_option maxHeartbeats 1000000 in
theorem voidR_any (s : ByteArray) (w : World) :
    Calls Tryz.prog 45 #[.string s] w fun e w' => e = .returned (.bool (voidB s.data.toList)) ∧ w = w' := by
  have h1 := eqs s [98, 114]
  have h2 := eqs s [104, 114]
  have h3 := eqs s [105, 109, 103]
  have h4 := eqs s [105, 110, 112, 117, 116]
  have h5 := eqs s [119, 98, 114]
  obtain ⟨q1, e1⟩ : ∃ q, decide (s.data.toList = [98, 114]) = q := ⟨_, rfl⟩
  obtain ⟨q2, e2⟩ : ∃ q, decide (s.data.toList = [104, 114]) = q := ⟨_, rfl⟩
  obtain ⟨q3, e3⟩ : ∃ q, decide (s.data.toList = [105, 109, 103]) = q := ⟨_, rfl⟩
  obtain ⟨q4, e4⟩ : ∃ q, decide (s.data.toList = [105, 110, 112, 117, 116]) = q := ⟨_, rfl⟩
  obtain ⟨q5, e5⟩ : ∃ q, decide (s.data.toList = [119, 98, 114]) = q := ⟨_, rfl⟩
  have HF := Lib.hid (show voidB s.data.toList = (q1 || q2 || q3 || q4 || q5) by unfold voidB; rw [e1, e2, e3, e4, e5])
  rw [e1] at h1
  rw [e2] at h2
  rw [e3] at h3
  rw [e4] at h4
  rw [e5] at h5
  clear e1 e2 e3 e4 e5
  cases q1
  case' false => cases q2
  case' false.false => cases q3
  case' false.false.false => cases q4
  case' false.false.false.false => cases q5
  all_goals
    go_enter Tryz.func45, Tryz.ntmps45
    go_wp2
    go_ret
    exact ⟨by rw [HF.out]; first | rfl | (simp only [Bool.true_or, Bool.false_or]; rfl), rfl⟩

end Go.Proofs.YthmnnalamaponaaGreat

/- Part ValR. -/
namespace Go.Proofs.YthmnnalamaponaaGreat
open Go.RowKit
set_option linter.unusedVariables false

/-- The value of the first attribute of a name. -/
def valA : List (ByteArray × ByteArray) → ByteArray → Option ByteArray
  | [], _ => none
  | a :: l, x => if a.1 = x then some a.2 else valA l x
theorem valA_none {l : List (ByteArray × ByteArray)} {x : ByteArray} : valA l x = none ↔ ∀ a ∈ l, a.1 ≠ x := by
  induction l with
  | nil => simp [valA]
  | cons a l ih =>
    unfold valA
    by_cases h : a.1 = x
    · simp [h]
    · simp [h, ih]
theorem valA_at {l : List (ByteArray × ByteArray)} {x : ByteArray} {k : Nat} {a : ByteArray × ByteArray} (h : ∀ b ∈ l.take k, b.1 ≠ x) (hk : l[k]? = some a) (ha : a.1 = x) : valA l x = some a.2 := by
  induction l generalizing k with
  | nil => simp at hk
  | cons b l ih =>
    cases k with
    | zero =>
      simp at hk
      subst hk
      unfold valA
      rw [if_pos ha]
    | succ k =>
      have hb := h b (by simp)
      unfold valA
      rw [if_neg hb]
      exact ih (k := k) (fun y hy => h y (by simp [hy])) (by simpa using hk)

theorem str_eq (a b : ByteArray) : (a.toList == b.toList) = decide (a = b) := by
  rw [eq_two]
  congr 1
  rw [eq_iff_iff]
  constructor
  · intro h
    apply ByteArray.ext
    exact Array.toList_inj.1 h
  · intro h
    rw [h]

structure ValAt (w wr : World) (l : List (ByteArray × ByteArray)) (x : ByteArray) (k : Nat) : Prop where
  le : k ≤ l.length
  is : ∀ b ∈ l.take k, b.1 ≠ x
  bel : Below w.heap.size w wr
  slot : True
def ValRel (w : World) (W : World) (l : List (ByteArray × ByteArray)) (x : ByteArray) (y : Value) (wr : World) : Prop := ∃ k : Nat, y = .int .i64 k ∧ ValAt w wr l x k ∧ wr = W

theorem ret_sb {a a' : ByteArray} {b b' : Bool} (h : a = a') (h' : b = b') : Ending.returned (.tuple #[.string a, .bool b]) = .returned (.tuple #[.string a', .bool b']) := by rw [h, h']

set_option maxHeartbeats 2000000 in
theorem valueR_any (S : Nat → Prop) (kind : Int) (nm tx : ByteArray) (l : List (ByteArray × ByteArray)) (va vk : Value) (x : ByteArray) (w : World) (hat : AttrsAt S w l va) (hS : ∀ b, S b → b < w.heap.size) (hsz : szA l ≤ 1000000) :
    Calls Tryz.prog 31 #[.agg #[.int .i64 kind, .string nm, va, .string tx, vk], .string x] w fun e w' =>
      e = .returned (.tuple #[.string ((valA l x).getD ⟨#[]⟩), .bool (valA l x).isSome]) ∧ Below w.heap.size w w' := by
  have hln := szA_len l
  have hat0 := hat
  obtain ⟨A, c, rfl, hc, _⟩ := hat
  have HAT := Lib.hid hat0
  clear hat0
  go_enter Tryz.func31, Tryz.ntmps31
  go_wp2_with fail
  go_loop [6] (fun y => ∃ k : Nat, y = .int .i64 k ∧ k ≤ l.length ∧ Hid (∀ b ∈ l.take k, b.1 ≠ x)) (fun y => l.length - (intOf y).toNat)
  case atStart => exact ⟨0, rfl, by omega, Lib.hid (by simp)⟩
  case round =>
    obtain ⟨k, rfl, hk, HA⟩ := hrel
    by_cases hlt : k < l.length
    · obtain ⟨b, o, c', hv, _, hSb, hcell⟩ := HAT.out.at_ (by omega)
      injection hv with hA _ hcc
      subst hA
      subst hcc
      obtain ⟨a, ha⟩ : ∃ a, l[k]? = some a := ⟨_, List.getElem?_eq_getElem hlt⟩
      have hbw := hS b hSb
      obtain ⟨q0, q1⟩ := hcell k a ha
      have HK := Lib.hid ha
      have hne : b ≠ w.heap.size := by omega
      by_cases hx : a.1 = x
      · have he : (a.1.toList == x.toList) = true := by rw [str_eq]; simp [hx]
        have HF := Lib.hid (valA_at HA.out ha hx)
        clear hcell ha hx
        go_wp2_with fail
        go_ret2
        exact ⟨by rw [HF.out]; rfl, below_new _ _⟩
      · have he : (a.1.toList == x.toList) = false := by rw [str_eq]; simp [hx]
        have HN := Lib.hid (show ∀ b ∈ l.take (k + 1), b.1 ≠ x by
          intro y hy
          rw [List.take_add_one, ha] at hy
          rcases List.mem_append.1 hy with hy | hy
          · exact HA.out y hy
          · simp at hy
            subst hy
            exact hx)
        clear hcell ha hx
        go_wp2_with fail
        go_round
        case rel => exact ⟨k + 1, by go_num, by omega, HN⟩
        case measure => simp [intOf]; omega
    · have HF := Lib.hid (show valA l x = none by
        have := HA.out
        rw [List.take_of_length_le (by omega)] at this
        exact valA_none.2 this)
      go_wp2_with fail
      go_ret2
      exact ⟨by rw [HF.out]; rfl, below_new _ _⟩

end Go.Proofs.YthmnnalamaponaaGreat

/- Part EndR. -/
namespace Go.Proofs.YthmnnalamaponaaGreat
open Go.RowKit
set_option linter.unusedVariables false

structure FdAt (w wr : World) (s : List UInt8) (v : Value) (k : Nat) : Prop where
  le : k ≤ s.length
  own : wr.ownsRow w.heap.size 5 1 v k (Lib.byteCells ((s.take k).map lowB))
  bel : Below w.heap.size w wr
def FdRel (w : World) (s : List UInt8) (v i : Value) (wr : World) : Prop := ∃ k : Nat, i = .int .i64 k ∧ FdAt w wr s v k

set_option maxHeartbeats 1000000 in
set_option maxRecDepth 100000 in
theorem foldR_any (s : ByteArray) (w : World) (hm : s.size ≤ 1000000) :
    Calls Tryz.prog 65 #[.string s] w fun e w' => e = .returned (.string (tB (s.data.toList.map lowB))) ∧ Below w.heap.size w w' := by
  obtain ⟨i0, hi, hz0, hz1, hz2⟩ := info_parts info_byte
  obtain ⟨sl, hsl⟩ : ∃ sl, s.data.toList = sl := ⟨_, rfl⟩
  have hss : s.size = sl.length := by rw [← hsl]; simp
  have hat : ∀ k, (h : k < s.size) → sl[k]? = some s[k] := by
    intro k h
    rw [← hsl, List.getElem?_eq_getElem (by simpa using h)]
    rw [at_data s k h]
  have HAT := Lib.hid hat
  have HSS := Lib.hid hss
  rw [hsl]
  clear hsl hss hat
  go_enter Tryz.func65, Tryz.ntmps65
  go_wp2_with fail
  go_loopw [3, 4, 5] (fun v i _ wr => FdRel w sl v i wr) (fun _ i _ _ => s.size - (intOf i).toNat)
  case atStart => exact ⟨0, rfl, by omega, World.ownsRow_nil _ _ _ _, Below.refl _ _⟩
  case round =>
    obtain ⟨k, rfl, HR⟩ := hrel
    obtain ⟨hk, hown, hbr⟩ := HR
    by_cases hlt : k < s.size
    · have hgk := HAT.out k hlt
      have hlen : k + 1 ≤ sl.length := by have := HSS.out; omega
      have hlw := lowB_toNat s[k]
      have HTK := Lib.hid (show (sl.take (k + 1)).map lowB = (sl.take k).map lowB ++ [lowB s[k]] by rw [take_snoc' hgk, List.map_append]; rfl)
      have hc := UInt8.toNat_lt s[k]
      have HLW := Lib.hid hlw
      clear hgk hlw
      by_cases h65 : 65 ≤ s[k].toNat
      · by_cases h90 : s[k].toNat ≤ 90
        · have B1 : IntKind.u8.wrap ((s[k].toNat : Int) + 32) = (s[k].toNat : Int) + 32 := by rw [IntKind.wrap_u8]; omega
          have HV := Lib.hid (show (s[k].toNat : Int) + 32 = ((lowB s[k]).toNat : Int) by rw [HLW.out, if_pos ⟨h65, h90⟩]; omega)
          have h65' : (65 : Int) ≤ (s[k].toNat : Int) := by omega
          have h90' : (s[k].toNat : Int) ≤ 90 := by omega
          go_wp2_with (at_builtin; refine wpList_append_own _ rfl _ _ 27 rfl w.heap.size 5 i0 (.int .u8 0) 1 1 Tryz.underlying27 hi hz0 hz1 hz2 rfl (by decide) _ _ _ rfl (hown.alloc _) ⟨wr.heap.size, 0, none⟩ 1 1 [.int .u8 ((s[k].toNat : Int) + 32)] rfl rfl (new_one _ _ _) (by simp [Value.oneCell']) (by unfold maxLen; omega) (by omega) (by have := hbr.size; simp; omega) ?_; intro v' w2 hown' hgrow _)
          have hB2 := (hbr.alloc hbr.size _).grown hgrow (by have := hbr.size; simp; omega) (fun g hg => (hown.lt g hg).1)
          clear hgrow
          go_roundw
          case rel =>
            refine ⟨k + 1, by go_num, hlen, ?_, hB2⟩
            rw [HTK.out, Lib.byteCells_append]
            rw [HV.out] at hown'
            exact hown'
          case measure => simp [intOf]; omega
        · have h65' : (65 : Int) ≤ (s[k].toNat : Int) := by omega
          have h90' : ¬ (s[k].toNat : Int) ≤ 90 := by omega
          have HV := Lib.hid (show (s[k].toNat : Int) = ((lowB s[k]).toNat : Int) by rw [HLW.out, if_neg (by omega)])
          go_wp2_with (at_builtin; refine wpList_append_own _ rfl _ _ 27 rfl w.heap.size 5 i0 (.int .u8 0) 1 1 Tryz.underlying27 hi hz0 hz1 hz2 rfl (by decide) _ _ _ rfl (hown.alloc _) ⟨wr.heap.size, 0, none⟩ 1 1 [.int .u8 (s[k].toNat : Int)] rfl rfl (new_one _ _ _) (by simp [Value.oneCell']) (by unfold maxLen; omega) (by omega) (by have := hbr.size; simp; omega) ?_; intro v' w2 hown' hgrow _)
          have hB2 := (hbr.alloc hbr.size _).grown hgrow (by have := hbr.size; simp; omega) (fun g hg => (hown.lt g hg).1)
          clear hgrow
          go_roundw
          case rel =>
            refine ⟨k + 1, by go_num, hlen, ?_, hB2⟩
            rw [HTK.out, Lib.byteCells_append]
            rw [HV.out] at hown'
            exact hown'
          case measure => simp [intOf]; omega
      · have h65' : ¬ (65 : Int) ≤ (s[k].toNat : Int) := by omega
        have HV := Lib.hid (show (s[k].toNat : Int) = ((lowB s[k]).toNat : Int) by rw [HLW.out, if_neg (by omega)])
        go_wp2_with (at_builtin; refine wpList_append_own _ rfl _ _ 27 rfl w.heap.size 5 i0 (.int .u8 0) 1 1 Tryz.underlying27 hi hz0 hz1 hz2 rfl (by decide) _ _ _ rfl (hown.alloc _) ⟨wr.heap.size, 0, none⟩ 1 1 [.int .u8 (s[k].toNat : Int)] rfl rfl (new_one _ _ _) (by simp [Value.oneCell']) (by unfold maxLen; omega) (by omega) (by have := hbr.size; simp; omega) ?_; intro v' w2 hown' hgrow _)
        have hB2 := (hbr.alloc hbr.size _).grown hgrow (by have := hbr.size; simp; omega) (fun g hg => (hown.lt g hg).1)
        clear hgrow
        go_roundw
        case rel =>
          refine ⟨k + 1, by go_num, hlen, ?_, hB2⟩
          rw [HTK.out, Lib.byteCells_append]
          rw [HV.out] at hown'
          exact hown'
        case measure => simp [intOf]; omega
    · have hke : k = sl.length := by have := HSS.out; omega
      subst hke
      rw [List.take_length] at hown
      obtain ⟨A1, c1, rfl, hc1⟩ := own_shape hown
      have hll : (sl.map lowB).length = sl.length := List.length_map _
      have hcv := convert_bytes (c := c1) (B := wr.heap.size) (A := A1) (l := sl.map lowB) (Sits.own hown)
      rw [hll] at hcv
      have hex : ¬ (sl.length < s.size) := hlt
      clear hown hlt hk hll
      go_wp2_with fail
      go_ret
      exact ⟨rfl, hbr⟩

set_option maxHeartbeats 400000 in
theorem blankR_any (c : UInt8) (w : World) :
    Calls Tryz.prog 66 #[.int .u8 c.toNat] w fun e w' => e = .returned (.bool (blC c)) ∧ w = w' := by
  have hv : blC c = (decide (c.toNat = 9) || decide (c.toNat = 10) || decide (c.toNat = 12) || decide (c.toNat = 32)) := rfl
  obtain ⟨q1, e1⟩ : ∃ q, ((c.toNat : Int) == 9) = q := ⟨_, rfl⟩
  obtain ⟨q2, e2⟩ : ∃ q, ((c.toNat : Int) == 10) = q := ⟨_, rfl⟩
  obtain ⟨q3, e3⟩ : ∃ q, ((c.toNat : Int) == 12) = q := ⟨_, rfl⟩
  obtain ⟨q4, e4⟩ : ∃ q, ((c.toNat : Int) == 32) = q := ⟨_, rfl⟩
  have key : ∀ n : Nat, decide (c.toNat = n) = ((c.toNat : Int) == (n : Int)) := by
    intro n
    by_cases h : c.toNat = n
    · rw [h]; simp
    · rw [decide_eq_false h]
      have : ¬ (c.toNat : Int) = (n : Int) := by omega
      simp [this]
  have HF := Lib.hid (show blC c = (q1 || q2 || q3 || q4) by rw [hv, key, key, key, key, ← e1, ← e2, ← e3, ← e4]; rfl)
  clear key hv
  cases q1
  case' false => cases q2
  case' false.false => cases q3
  all_goals
    go_enter Tryz.func66, Tryz.ntmps66
    go_wp2
    go_ret
    exact ⟨by rw [HF.out]; first | rfl | (simp only [Bool.true_or, Bool.false_or]; rfl), rfl⟩

structure EnAt (w wr : World) (nm l : List UInt8) (i : Nat) : Prop where
  le : i ≤ l.length
  no : ∀ j, j < i → endAt nm (l.drop j) = false
  bel : Below w.heap.size w wr
def EnRel (w : World) (nm l : List UInt8) (x : Value) (wr : World) : Prop := ∃ i : Nat, x = .int .i64 i ∧ EnAt w wr nm l i

theorem endAt_split {nm l : List UInt8} {i : Nat} {c : UInt8} (h : l[i + (2 + nm.length)]? = some c) : endAt nm (l.drop i) = (decide (((l.drop i).take (2 + nm.length)).map lowB = 60 :: 47 :: nm) && (blC c || decide (c = 47) || decide (c = 62))) := by
  unfold endAt
  have hd : (l.drop i).drop (2 + nm.length) = c :: l.drop (i + (2 + nm.length) + 1) := by
    rw [List.drop_drop]
    have hlt := (List.getElem?_eq_some_iff.1 h).1
    rw [List.drop_eq_getElem_cons hlt]
    rw [(List.getElem?_eq_some_iff.1 h).2]
  rw [hd]
theorem eq_cat {X : List UInt8} {name : ByteArray} : ((tB X).toList == ((⟨#[60, 47]⟩ : ByteArray) ++ name).toList) = decide (X = 60 :: 47 :: name.data.toList) := by
  rw [str_eq]
  congr 1
  rw [eq_iff_iff]
  constructor
  · intro h
    have := congrArg (fun b : ByteArray => b.data.toList) h
    simp only [tB_list, ByteArray.data_append, Array.toList_append] at this
    exact this
  · intro h
    apply bytes_inj
    rw [tB_list, h]
    simp

set_option maxHeartbeats 2000000 in
set_option maxRecDepth 100000 in
theorem endsR_any (s name : ByteArray) (w : World) (hm : s.size ≤ 400000) (hm2 : name.size ≤ 200000) :
    Calls Tryz.prog 54 #[.string s, .string name] w fun e w' => e = .returned (.int .i64 (endsI name.data.toList s.data.toList)) ∧ Below w.heap.size w w' := by
  obtain ⟨l, hl⟩ : ∃ l, s.data.toList = l := ⟨_, rfl⟩
  obtain ⟨nm, hn⟩ : ∃ nm, name.data.toList = nm := ⟨_, rfl⟩
  have hss : s.size = l.length := by rw [← hl]; simp
  have hns : name.size = nm.length := by rw [← hn]; simp
  have hat : ∀ k, (h : k < s.size) → l[k]? = some s[k] := by
    intro k h
    rw [← hl, List.getElem?_eq_getElem (by simpa using h)]
    rw [at_data s k h]
  have HAT := Lib.hid hat
  have HSS := Lib.hid hss
  have HNS := Lib.hid hns
  have HL := Lib.hid hl
  have HN := Lib.hid hn
  rw [hl, hn]
  clear hl hn hss hns hat
  go_enter Tryz.func54, Tryz.ntmps54
  go_wp2_with fail
  go_loopw [6, 7] (fun x _ wr => EnRel w nm l x wr) (fun x _ _ => s.size - (intOf x).toNat)
  case atStart => exact ⟨0, rfl, ⟨by omega, fun j hj => by omega, Below.refl _ _⟩⟩
  case round =>
    obtain ⟨i, rfl, HR⟩ := hrel
    obtain ⟨hi, hno, hbr⟩ := HR
    have hil : i ≤ s.size := by have := HSS.out; omega
    obtain ⟨m, hmm⟩ : ∃ m : Nat, m = i + (2 + name.size) := ⟨_, rfl⟩
    have e1 : (i : Int) + (2 + (name.size : Int)) = (m : Int) := by omega
    have HNO := Lib.hid hno
    have HMM := Lib.hid hmm
    clear hno hmm
    by_cases hlt : m < s.size
    · have him : i ≤ m := by have := HMM.out; omega
      have f1 : (0 : Int) ≤ (i : Int) ∧ (i : Int) ≤ (m : Int) ∧ (m : Int) ≤ (s.size : Int) := by omega
      obtain ⟨f1, f2, f3⟩ := f1
      have f4 : (m : Int) < (s.size : Int) := by omega
      have f5 : (0 : Int) ≤ (m : Int) := by omega
      have hex := HAT.out m hlt
      have hmid : (s.extract i m).data.toList = (l.drop i).take (2 + nm.length) := by
        rw [mid_extract, HL.out]
        have := HMM.out
        have := HNS.out
        congr 1
        omega
      have hmz : (s.extract i m).size ≤ 400000 := by rw [ByteArray.size_extract]; omega
      have HF := Lib.hid (fun W => foldR_any (s.extract i m) W (by omega))
      rw [hmid] at HF
      have hsp := endAt_split (nm := nm) (l := l) (i := i) (c := s[m]) (by have := HMM.out; have := HNS.out; rw [show i + (2 + nm.length) = m by omega]; exact hex)
      obtain ⟨q, hq⟩ : ∃ q, ((tB (((l.drop i).take (2 + nm.length)).map lowB)).toList == ((⟨#[60, 47]⟩ : ByteArray) ++ name).toList) = q := ⟨_, rfl⟩
      have hq2 := eq_cat (X := ((l.drop i).take (2 + nm.length)).map lowB) (name := name)
      rw [HN.out, hq] at hq2
      rw [← hq2] at hsp
      obtain ⟨c, hc⟩ : ∃ c, s[m] = c := ⟨_, rfl⟩
      rw [hc] at hsp
      have HB := Lib.hid (fun W => blankR_any c W)
      rw [← hc] at HB
      obtain ⟨bl, hbl⟩ : ∃ b, blC c = b := ⟨_, rfl⟩
      rw [hbl] at hsp
      rw [hc, hbl, ← hc] at HB
      obtain ⟨T, hT⟩ : ∃ T, tB (((l.drop i).take (2 + nm.length)).map lowB) = T := ⟨_, rfl⟩
      rw [hT] at HF hq
      have HSP := Lib.hid hsp
      have HC := Lib.hid hc
      have hi4 : i + 1 ≤ l.length := by have := HSS.out; have := HMM.out; omega
      have hns2 : ¬ (9223372036854775807 < (⟨#[60, 47]⟩ : ByteArray).size + name.size) := by show ¬ (_ < 2 + name.size); omega
      clear hex hmid hmz hsp hc hq2 hbl hT
      have HQ := Lib.hid hq
      clear hq
      go_wp2_with fail
      refine (HF.out _).mono ?_
      rintro e w2 ⟨rfl, hb2⟩
      have hB2 := below_after hbr hb2
      clear hb2
      cases q with
      | false =>
        have B0 := HQ.out
        have HE := Lib.hid (show endAt nm (l.drop i) = false by rw [HSP.out]; rfl)
        go_wp2_with fail
        go_roundw
        case rel => exact ⟨i + 1, by go_num, hi4, fun j hj => by
          rcases Nat.lt_or_ge j i with h | h
          · exact HNO.out j h
          · rw [show j = i by omega]; exact HE.out, hB2⟩
        case measure => simp [intOf]; omega
      | true =>
        have B0 := HQ.out
        cases bl with
        | true =>
          have HE := Lib.hid (endsI_at HNO.out (show endAt nm (l.drop i) = true by rw [HSP.out]; rfl))
          go_wp2_with fail
          refine (HB.out _).mono ?_
          rintro e w3 ⟨rfl, rfl⟩
          go_wp2_with fail
          go_ret
          rw [HE.out]
          exact ⟨rfl, hB2⟩
        | false =>
          by_cases h47 : c = 47
          · have B1 : ((s[m].toNat : Int) == 47) = true := by rw [HC.out, h47]; rfl
            have HE := Lib.hid (endsI_at HNO.out (show endAt nm (l.drop i) = true by rw [HSP.out, h47]; rfl))
            clear h47
            go_wp2_with fail
            refine (HB.out _).mono ?_
            rintro e w3 ⟨rfl, rfl⟩
            go_wp2_with fail
            go_ret
            rw [HE.out]
            exact ⟨rfl, hB2⟩
          · have n47 : ¬ (s[m].toNat = 47) := fun e => h47 (by rw [← HC.out]; exact UInt8.toNat_inj.1 e)
            have B1 : ((s[m].toNat : Int) == 47) = false := by simp; omega
            by_cases h62 : c = 62
            · have B2 : ((s[m].toNat : Int) == 62) = true := by rw [HC.out, h62]; rfl
              have HE := Lib.hid (endsI_at HNO.out (show endAt nm (l.drop i) = true by rw [HSP.out, h62]; rfl))
              clear h47 h62
              go_wp2_with fail
              refine (HB.out _).mono ?_
              rintro e w3 ⟨rfl, rfl⟩
              go_wp2_with fail
              go_ret
              rw [HE.out]
              exact ⟨rfl, hB2⟩
            · have n62 : ¬ (s[m].toNat = 62) := fun e => h62 (by rw [← HC.out]; exact UInt8.toNat_inj.1 e)
              have B2 : ((s[m].toNat : Int) == 62) = false := by simp; omega
              have HE := Lib.hid (show endAt nm (l.drop i) = false by rw [HSP.out, decide_eq_false h47, decide_eq_false h62]; rfl)
              clear h47 h62
              go_wp2_with fail
              refine (HB.out _).mono ?_
              rintro e w3 ⟨rfl, rfl⟩
              go_wp2_with fail
              go_roundw
              case rel => exact ⟨i + 1, by go_num, hi4, fun j hj => by
                rcases Nat.lt_or_ge j i with h | h
                · exact HNO.out j h
                · rw [show j = i by omega]; exact HE.out, hB2⟩
              case measure => simp [intOf]; omega
    · have hmge : s.size ≤ m := by omega
      have hfin := Lib.hid (show endsI nm l = -1 from endsI_no fun j hj => by
        by_cases hji : j < i
        · exact HNO.out j hji
        · refine endAt_short ?_
          rw [List.length_drop]
          have := HMM.out
          have := HNS.out
          have := HSS.out
          omega)
      go_wp2_with fail
      go_ret
      rw [hfin.out]
      exact ⟨rfl, hbr⟩

end Go.Proofs.YthmnnalamaponaaGreat

/- Part Out. -/
namespace Go.Proofs.YthmnnalamaponaaGreat
open Go.RowKit
set_option linter.unusedVariables false

theorem dN_below {B : Nat} {a w : World} (h : Below B a w) (n : Nat) : Below B a (w.drewN n) := h.trans ⟨rfl, rfl, rfl, Nat.le_refl _, fun _ _ => rfl⟩

/-- Every block but b, and but rows of bytes, stands as it stood. -/
abbrev Oth (b : Nat) (W W' : World) : Prop := Lib.OthersKept 5 (some b) W W'
theorem Oth.box {b k : Nat} {W W' : World} {cs : Array Value} {t : TypeId} (h : Oth b W W') (hk : W.heap[k]? = some (.cells cs t (0, 0))) (hb : k ≠ b) (ht : t ≠ 5) : W'.heap[k]? = some (.cells cs t (0, 0)) :=
  h k _ hk (fun e => hb (Option.some.inj e)) (fun c fz e => ht (by injection e))
theorem Oth.below {b : Nat} {W W' : World} (h : Below W.heap.size W W') : Oth b W W' := fun k o hk _ _ => by
  have hlt : k < W.heap.size := (Array.getElem?_eq_some_iff.1 hk).1
  exact (h.block k hlt).trans hk
theorem cell_at {W : World} {k : Nat} {cs : Array Value} {t : TypeId} (h : W.heap[k]? = some (.cells cs t (0, 0))) (j : Nat) : W.cell? ⟨k, j, none⟩ = cs[j]? := by simp [World.cell?, h]
theorem froz_at {W : World} {k : Nat} {cs : Array Value} {t : TypeId} (h : W.heap[k]? = some (.cells cs t (0, 0))) (j : Nat) : W.frozen? ⟨k, j, none⟩ = false := by simp [World.frozen?, h]
theorem box_here (W : World) (cs : Array Value) (t : TypeId) : (W.alloc (.cells cs t)).heap[W.heap.size]? = some (.cells cs t (0, 0)) := heap_alloc_new W _

/-- The function g, over the variable b that it has taken along, is told pieces: Inv says what it has been told; it changes nothing but its own. -/
structure Out (n0 : Nat) (w0 : World) (g : FuncId) (b M : Nat) (Inv : List UInt8 → World → Prop) : Prop where
  ent : ∀ args w, (callFunc g args).run Tryz.prog w = .ok (.enter g args) w
  call : ∀ (acc : List UInt8) (s : ByteArray) (W : World), Inv acc W → acc.length + s.data.toList.length ≤ M →
    Calls Tryz.prog g #[.string s, .pointer (some ⟨b, 0, none⟩)] W fun e W' => e = .returned (.tuple #[]) ∧ Inv (acc ++ s.data.toList) W' ∧ Oth b W W'
  bel : ∀ acc W, Inv acc W → Below n0 w0 W
  new : ∀ acc W W', Inv acc W → Below W.heap.size W W' → Inv acc W'
  lt : ∀ acc W, Inv acc W → b < W.heap.size

/-- What a call that tells pieces hands back. -/
def Told (Inv : List UInt8 → World → Prop) (b : Nat) (W : World) (acc : List UInt8) (e : Ending) (W' : World) : Prop :=
  e = .returned (.tuple #[]) ∧ Inv acc W' ∧ Oth b W W'

end Go.Proofs.YthmnnalamaponaaGreat
