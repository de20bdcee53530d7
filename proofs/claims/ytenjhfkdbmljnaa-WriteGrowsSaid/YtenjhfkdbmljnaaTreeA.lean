/- A list of nodes that the call makes: append, a text that grows, calls in between. -/
import Derived.Test.YtenjhfkdbmljnaaTree
namespace Go.Proofs.Ytenjhfkdbmljnaa
open Go.RowKit
set_option linter.unusedVariables false

theorem info_node : (Try.prog.info? 29).map (fun i => (i.zero, i.size, i.bytes)) = some (some (.agg #[.int .i64 0, .string ⟨#[]⟩, .slice none 0 0, .string ⟨#[]⟩, .slice none 0 0]), 5, 88) := by kernel_rfl
theorem info_attr : (Try.prog.info? 35).map (fun i => (i.zero, i.size, i.bytes)) = some (some (.agg #[.string ⟨#[]⟩, .string ⟨#[]⟩]), 2, 32) := by kernel_rfl

/-- The blocks from lo on that there are, but v's own. -/
def Sub (lo : Nat) (w : World) (v : Value) (b : Nat) : Prop := lo ≤ b ∧ b < w.heap.size ∧ v.ownBlock ≠ some b
/-- A list of nodes of the call's own: what hangs on them lies anywhere from block lo on, but in its own row. -/
def OwnC (w : World) (base lo : Nat) (l : List Nd) (v : Value) : Prop := OwnT w base (Sub lo w v) l v

theorem OwnC.nil (w : World) (base lo : Nat) : OwnC w base lo [] (.slice none 0 0) := OwnT.nil _ _ _

theorem OwnT.later {w w' : World} {base : Nat} {S S' : Nat → Prop} {l : List Nd} {v : Value} (h : OwnT w base S l v) (hb : Below w.heap.size w w') (hS : ∀ b, S b → b < w.heap.size) (hSS : ∀ b, S b → S' b) (hv : ∀ g, v.ownBlock = some g → ¬ S' g) : OwnT w' base S' l v := by
  obtain ⟨R, hl, hown, hat, hk, hn⟩ := h
  have kp : Kept S w w' := Kept.below hb hS
  exact ⟨R, hl, own_below hown hb, fun r hr => ((hat r hr).keep kp).mono hSS, fun r hr => ((hk r hr).keep kp).mono hSS, hv⟩
/-- It stays, behind a call that only makes new blocks. -/
theorem OwnC.later {w w' : World} {base lo : Nat} {l : List Nd} {v : Value} (h : OwnC w base lo l v) (hb : Below w.heap.size w w') : OwnC w' base lo l v :=
  OwnT.later h hb (fun b hs => hs.2.1) (fun b hs => ⟨hs.1, Nat.lt_of_lt_of_le hs.2.1 hb.size, hs.2.2⟩) (fun g hg hs => hs.2.2 hg)
theorem OwnC.tree {w : World} {base lo : Nat} {l : List Nd} {v : Value} (h : OwnC w base lo l v) (hlo : lo ≤ base) : Tree (fun b => lo ≤ b ∧ b < w.heap.size) w l v := by
  have hlt := OwnT.lt h
  refine (OwnT.tree h).mono fun b hb => ?_
  rcases hb with hb | hb
  · exact ⟨hb.1, hb.2.1⟩
  · have := hlt b hb
    exact ⟨by omega, this.2⟩

/-- One node more, at an operation. -/
theorem wp_append_node {w : World} {o : Oper} {a : Act} {K : Act → World → Prop} {Q : Exit → Act → World → Prop} (s x : Operand)
    (ho : o.op = .call { callee := .builtin .append, args := #[s, x], argTypes := #[22, 22] })
    (base lo : Nat) (l : List Nd) (v : Value) (hs : a.eval s = v) (h : OwnC w base lo l v) (r : Rn) (ad : Addr) (c : Nat) (hx : a.eval x = .slice (some ad) 1 c)
    (hnews : ∀ j u, (ncells1 r)[j]? = some u → w.cell? (ad.add j) = some u) (hat : AttrsAt (Sub lo w v) w r.n.attrs r.va) (hk : Tree (Sub lo w v) w r.n.kids r.vk)
    (hlen : l.length ≤ 1000000) (hbase : base ≤ w.heap.size)
    (hK' : ∀ v' w', OwnC w' base lo (l ++ [r.n]) v' → w.grownBy w' v.ownBlock → K (a.put o.dst v') w') :
    Oper.wp Try.prog o a w K Q := by
  obtain ⟨i0, hi, hz0, hz1, hz2⟩ := info_parts info_node
  obtain ⟨R, rfl, hown, hat0, hk0, hn⟩ := h
  rw [List.length_map] at hlen
  obtain ⟨A1, c1, hva, _⟩ := id hat
  obtain ⟨A2, c2, hvk, _⟩ := hk.shape
  have h1 : ∀ u ∈ ncells1 r, u.oneCell' = true := by
    intro u hu
    simp only [ncells1, List.mem_cons, List.not_mem_nil, or_false] at hu
    rcases hu with rfl | rfl | rfl | rfl | rfl
    · rfl
    · rfl
    · rw [hva]; rfl
    · rfl
    · rw [hvk]; rfl
  obtain ⟨v', w', hrun, own', hgr, hnew⟩ := run_append_new (w := w) base 22 o.type 29 i0 _ 5 88 Try.underlying22 hi hz0 hz1 hz2 rfl (by decide) v R.length (ncells R) hown ad 1 c (ncells1 r) rfl hnews h1 (by unfold maxLen; omega) (by omega) hbase
  unfold Oper.wp
  simp [execOp, ho, resolve, invoke, builtin, hs, hx, hrun, Result.andThen]
  have hSS : ∀ b, Sub lo w v b → Sub lo w' v' b := by
    intro b hb
    refine ⟨hb.1, Nat.lt_of_lt_of_le hb.2.1 hgr.size, ?_⟩
    rcases hnew with e | e
    · rw [e]; exact hb.2.2
    · intro hg
      have := e b hg
      have := hb.2.1
      omega
  have kp : Kept (Sub lo w v) w w' := Kept.grown hgr fun b hb => ⟨hb.2.1, fun e => hb.2.2 e.symm⟩
  refine (hK' v' w' ⟨R ++ [r], by simp, ?_, ?_, ?_, fun g hg hs => hs.2.2 hg⟩ hgr)
  · rw [List.length_append, ncells_append]
    have : ncells [r] = ncells1 r := by simp [ncells]
    rw [this]
    exact own'
  · intro q hq
    rcases List.mem_append.1 hq with hq | hq
    · exact ((hat0 q hq).keep kp).mono hSS
    · simp at hq
      subst hq
      exact (AttrsAt.keep hat kp).mono hSS
  · intro q hq
    rcases List.mem_append.1 hq with hq | hq
    · exact ((hk0 q hq).keep kp).mono hSS
    · simp at hq
      subst hq
      exact (hk.keep kp).mono hSS

/-- One node more. -/
theorem wpList_append_node {w : World} {ops : Array Oper} {rest : List Oper} {o : Oper} {a : Act} {Q : Exit → Act → World → Prop} (hgd : o.guard = none) (s x : Operand)
    (ho : o.op = .call { callee := .builtin .append, args := #[s, x], argTypes := #[22, 22] })
    (base lo : Nat) (l : List Nd) (v : Value) (hs : a.eval s = v) (h : OwnC w base lo l v) (r : Rn) (ad : Addr) (c : Nat) (hx : a.eval x = .slice (some ad) 1 c)
    (hnews : ∀ j u, (ncells1 r)[j]? = some u → w.cell? (ad.add j) = some u) (hat : AttrsAt (Sub lo w v) w r.n.attrs r.va) (hk : Tree (Sub lo w v) w r.n.kids r.vk)
    (hlen : l.length ≤ 1000000) (hbase : base ≤ w.heap.size)
    (hK : ∀ v' w', OwnC w' base lo (l ++ [r.n]) v' → w.grownBy w' v.ownBlock → wpList Try.prog ops Q rest (a.put o.dst v') w') :
    wpList Try.prog ops Q (o :: rest) a w := by
  exact wpList_plain hgd fun K hK' => wp_append_node s x ho base lo l v hs h r ad c hx hnews hat hk hlen hbase fun v' w' h1 h2 => hK' _ _ (hK v' w' h1 h2)

/-- One node more, at a step of a region that draws its order. -/
theorem step_append_node {w : World} {ops : Array Oper} {o : Oper} {a : Act} {K : Act → World → Prop} {Q : Exit → Act → World → Prop} {E : Prop} (hgd : o.guard = none) (s x : Operand)
    (ho : o.op = .call { callee := .builtin .append, args := #[s, x], argTypes := #[22, 22] })
    (base lo : Nat) (l : List Nd) (v : Value) (hs : a.eval s = v) (h : OwnC w base lo l v) (r : Rn) (ad : Addr) (c : Nat) (hx : a.eval x = .slice (some ad) 1 c)
    (hnews : ∀ j u, (ncells1 r)[j]? = some u → w.cell? (ad.add j) = some u) (hat : AttrsAt (Sub lo w v) w r.n.attrs r.va) (hk : Tree (Sub lo w v) w r.n.kids r.vk)
    (hlen : l.length ≤ 1000000) (hbase : base ≤ w.heap.size)
    (hK : ∀ v' w', OwnC w' base lo (l ++ [r.n]) v' → w.grownBy w' v.ownBlock → K (a.put o.dst v') w') :
    if Region.wanted o (yielded ops a.tmps) = true then Oper.wp Try.prog o a w K Q else E := by
  have hw : Region.wanted o (yielded ops a.tmps) = true := by simp [Region.wanted, hgd]
  rw [if_pos hw]
  exact wp_append_node s x ho base lo l v hs h r ad c hx hnews hat hk hlen hbase hK

theorem ncells_set (M : List Rn) (r : Rn) (t : ByteArray) : (ncells (M ++ [r])).set (M.length * 5 + 3) (.string t) = ncells (M ++ [⟨.mk r.n.kind r.n.name r.n.attrs t r.n.kids, r.va, r.vk⟩]) := by
  rw [ncells_append, ncells_append, List.set_append_right _ _ (by rw [ncells_length]; omega), ncells_length]
  rw [show M.length * 5 + 3 - M.length * 5 = 3 by omega]
  rfl

/-- A new node's cells, where they were laid. -/
theorem new_five (w : World) (t : TypeId) (r : Rn) : ∀ j u, (ncells1 r)[j]? = some u → (w.alloc (.cells #[.int .i64 r.n.kind, .string r.n.name, r.va, .string r.n.text, r.vk] t)).cell? ((⟨w.heap.size, 0, none⟩ : Addr).add j) = some u := by
  intro j u hj
  rw [add_zero_addr]
  match j, hj with
  | 0, hj => simp [ncells1] at hj; subst hj; simp
  | 1, hj => simp [ncells1] at hj; subst hj; simp
  | 2, hj => simp [ncells1] at hj; subst hj; simp
  | 3, hj => simp [ncells1] at hj; subst hj; simp
  | 4, hj => simp [ncells1] at hj; subst hj; simp
  | j + 5, hj => simp [ncells1] at hj

/-- What came in stays, while the call makes its own; its blocks are none of the call's own row. -/
theorem input_kept {w wr : World} {lo : Nat} {l : List Nd} {v : Value} (hb : Below w.heap.size w wr) (h : OwnC wr w.heap.size lo l v) (o : Obj) :
    Kept (fun b => lo ≤ b ∧ b < w.heap.size) w (wr.alloc o) ∧ ∀ b, (lo ≤ b ∧ b < w.heap.size) → Sub lo (wr.alloc o) v b := by
  refine ⟨Kept.belowB (hb.alloc hb.size _) fun b hb => hb.2, fun b hlt => ⟨hlt.1, ?_, fun e => ?_⟩⟩
  · have := hb.size
    simp
    omega
  · have := (OwnT.lt h b e).1
    omega

theorem OwnC.drew {w : World} {base lo : Nat} {l : List Nd} {v : Value} (h : OwnC w base lo l v) : OwnC w.drew base lo l v := h.later ((Below.refl _ _).drew)

theorem below_new (w : World) (o : Obj) : Below w.heap.size w (w.alloc o) := (Below.refl _ _).alloc (Nat.le_refl _) _

/-- The last node's cells. -/
theorem OwnC.last {w : World} {base lo n c : Nat} {A : Option Addr} {m : List Nd} {x : Nd} (h : OwnC w base lo (m ++ [x]) (.slice A n c)) :
    ∃ g, A = some ⟨g, 0, none⟩ ∧ n = m.length + 1 ∧ base ≤ g ∧ w.cell? ⟨g, m.length * 5, none⟩ = some (.int .i64 x.kind) ∧ w.cell? ⟨g, m.length * 5 + 3, none⟩ = some (.string x.text) ∧ w.frozen? ⟨g, m.length * 5 + 3, none⟩ = false := by
  obtain ⟨R, hl, hown, hat, hk, hn⟩ := h
  obtain ⟨A', c', hv, _⟩ := own_size hown
  have hnl : n = R.length := by injection hv
  subst hnl
  have hR : 0 < R.length := by
    have := congrArg List.length hl
    simp at this
    omega
  obtain ⟨M, r, rfl⟩ := snoc_of hR
  have hml : M.map Rn.n = m ∧ r.n = x := by
    rw [List.map_append] at hl
    have := List.append_inj' hl (by simp)
    exact ⟨this.1, by simpa using this.2⟩
  have hlen : m.length = M.length := by rw [← hml.1]; simp
  obtain ⟨g, rfl, hcells⟩ : ∃ g, A = some ⟨g, 0, none⟩ ∧ True := by
    rcases hown.2 with ⟨_, h0⟩ | ⟨g, cap, cur, hv, _⟩
    · simp at h0
    · injection hv with hA
      exact ⟨g, hA, trivial⟩
  have ha := ncells_at (R := M ++ [r]) (k := M.length) (r := r) (by simp)
  have hb := hown.lt g rfl
  rw [hlen]
  refine ⟨g, rfl, by simp, hb.1, ?_, ?_, ?_⟩
  · rw [hown.cellAt (M.length * 5) (by rw [List.length_append, List.length_singleton]; omega), ha.1, hml.2]
  · rw [hown.cellAt (M.length * 5 + 3) (by rw [List.length_append, List.length_singleton]; omega), ha.2.2.2.1, hml.2]
  · exact hown.frozenAt _

/-- The last node's text is another one. -/
theorem OwnC.text {w : World} {base lo g n c : Nat} {m : List Nd} {x : Nd} (h : OwnC w base lo (m ++ [x]) (.slice (some ⟨g, 0, none⟩) n c)) (t : ByteArray) :
    OwnC (w.setCell ⟨g, m.length * 5 + 3, none⟩ (.string t)) base lo (m ++ [.mk x.kind x.name x.attrs t x.kids]) (.slice (some ⟨g, 0, none⟩) n c) ∧ w.grownBy (w.setCell ⟨g, m.length * 5 + 3, none⟩ (.string t)) (some g) := by
  obtain ⟨R, hl, hown, hat, hk, hn⟩ := h
  obtain ⟨A, c', hv, _⟩ := own_size hown
  have hnl : n = R.length := by injection hv
  subst hnl
  have hR : 0 < R.length := by
    have := congrArg List.length hl
    simp at this
    omega
  obtain ⟨M, r, rfl⟩ := snoc_of hR
  have hml : M.map Rn.n = m ∧ r.n = x := by
    rw [List.map_append] at hl
    have := List.append_inj' hl (by simp)
    exact ⟨this.1, by simpa using this.2⟩
  have hlen : m.length = M.length := by rw [← hml.1]; simp
  have st := hown.stored (m.length * 5 + 3) (.string t)
  have hsz : (w.setCell ⟨g, m.length * 5 + 3, none⟩ (.string t)).heap.size = w.heap.size := by simp
  have kp : Kept (Sub lo w (.slice (some ⟨g, 0, none⟩) (M ++ [r]).length c)) w (w.setCell ⟨g, m.length * 5 + 3, none⟩ (.string t)) := Kept.grown st.2 fun b hb => ⟨hb.2.1, fun e => hb.2.2 (by injection e with e; subst e; rfl)⟩
  have hSS : ∀ b, Sub lo w (.slice (some ⟨g, 0, none⟩) (M ++ [r]).length c) b → Sub lo (w.setCell ⟨g, m.length * 5 + 3, none⟩ (.string t)) (.slice (some ⟨g, 0, none⟩) (M ++ [r]).length c) b := fun b hb => ⟨hb.1, by rw [hsz]; exact hb.2.1, hb.2.2⟩
  refine ⟨⟨M ++ [⟨.mk r.n.kind r.n.name r.n.attrs t r.n.kids, r.va, r.vk⟩], ?_, ?_, ?_, ?_, fun g hg hs => hs.2.2 hg⟩, st.2⟩
  · rw [List.map_append, hml.1, ← hml.2]
    rfl
  · have := st.1
    rw [hlen, ncells_set] at this
    rw [hlen]
    simpa using this
  · intro q hq
    rcases List.mem_append.1 hq with hq | hq
    · exact ((hat q (by simp [hq])).keep kp).mono hSS
    · simp at hq
      subst hq
      exact ((hat r (by simp)).keep kp).mono hSS
  · intro q hq
    rcases List.mem_append.1 hq with hq | hq
    · exact ((hk q (by simp [hq])).keep kp).mono hSS
    · simp at hq
      subst hq
      exact ((hk r (by simp)).keep kp).mono hSS

end Go.Proofs.Ytenjhfkdbmljnaa
