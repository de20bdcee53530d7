/- Parts of the proof, in build order: TreeA TbM Norm MathV MathW NamM RefM. -/
import Derived.Test.YtialfafjoemppaaK01
import Derived.WalkKit
import Derived.Lib.Strings

/- Part TreeA. -/
namespace Go.Proofs.Ytialfafjoemppaa
open Go.RowKit
set_option linter.unusedVariables false

theorem info_node : (Try.prog.info? 28).map (fun i => (i.zero, i.size, i.bytes)) = some (some (.agg #[.int .i64 0, .string ⟨#[]⟩, .slice none 0 0, .string ⟨#[]⟩, .slice none 0 0]), 5, 88) := by kernel_rfl
theorem info_attr : (Try.prog.info? 40).map (fun i => (i.zero, i.size, i.bytes)) = some (some (.agg #[.string ⟨#[]⟩, .string ⟨#[]⟩]), 2, 32) := by kernel_rfl

/-- The blocks from lo on that there are, but v's own. -/
def Sub (lo : Nat) (w : World) (v : Value) (b : Nat) : Prop := lo ≤ b ∧ b < w.heap.size ∧ v.ownBlock ≠ some b
/-- A list of nodes of the call's own: what hangs on them lies anywhere from block lo on, but in its own row. -/
def OwnC (w : World) (base lo : Nat) (l : List Nd) (v : Value) : Prop := OwnT w base (Sub lo w v) l v

theorem OwnC.nil (w : World) (base lo : Nat) : OwnC w base lo [] (.slice none 0 0) := OwnT.nil _ _ _

theorem OwnT.later {w w' : World} {base : Nat} {S S' : Nat → Prop} {l : List Nd} {v : Value} (h : OwnT w base S l v) (hb : Below w.heap.size w w') (hS : ∀ b, S b → b < w.heap.size) (hSS : ∀ b, S b → S' b) (hv : ∀ g, v.ownBlock = some g → ¬ S' g) : OwnT w' base S' l v := by
  obtain ⟨R, hl, hown, hat, hk, hn⟩ := h
  have kp : Kept S w w' := Kept.below hb hS
  exact ⟨R, hl, own_below hown hb, fun r hr => ((hat r hr).keep kp).mono hSS, fun r hr => ((hk r hr).keep kp).mono hSS, hv⟩
/-- It stays, behind a call that only makes new blocks. -/
theorem OwnC.later {w w' : World} {base lo : Nat} {l : List Nd} {v : Value} (h : OwnC w base lo l v) (hb : Below w.heap.size w w') : OwnC w' base lo l v :=
  OwnT.later h hb (fun b hs => hs.2.1) (fun b hs => ⟨hs.1, Nat.lt_of_lt_of_le hs.2.1 hb.size, hs.2.2⟩) (fun g hg hs => hs.2.2 hg)
theorem OwnC.tree {w : World} {base lo : Nat} {l : List Nd} {v : Value} (h : OwnC w base lo l v) (hlo : lo ≤ base) : Tree (fun b => lo ≤ b ∧ b < w.heap.size) w l v := by
  have hlt := OwnT.lt h
  refine (OwnT.tree h).mono fun b hb => ?_
  rcases hb with hb | hb
  · exact ⟨hb.1, hb.2.1⟩
  · have := hlt b hb
    exact ⟨by omega, this.2⟩

/-- One node more, at an operation. -/
theorem wp_append_node {w : World} {o : Oper} {a : Act} {K : Act → World → Prop} {Q : Exit → Act → World → Prop} (s x : Operand)
    (ho : o.op = .call { callee := .builtin .append, args := #[s, x], argTypes := #[22, 22] })
    (base lo : Nat) (l : List Nd) (v : Value) (hs : a.eval s = v) (h : OwnC w base lo l v) (r : Rn) (ad : Addr) (c : Nat) (hx : a.eval x = .slice (some ad) 1 c)
    (hnews : ∀ j u, (ncells1 r)[j]? = some u → w.cell? (ad.add j) = some u) (hat : AttrsAt (Sub lo w v) w r.n.attrs r.va) (hk : Tree (Sub lo w v) w r.n.kids r.vk)
    (hlen : l.length ≤ 1000000) (hbase : base ≤ w.heap.size)
    (hK' : ∀ v' w', OwnC w' base lo (l ++ [r.n]) v' → w.grownBy w' v.ownBlock → K (a.put o.dst v') w') :
    Oper.wp Try.prog o a w K Q := by
  obtain ⟨i0, hi, hz0, hz1, hz2⟩ := info_parts info_node
  obtain ⟨R, rfl, hown, hat0, hk0, hn⟩ := h
  rw [List.length_map] at hlen
  obtain ⟨A1, c1, hva, _⟩ := id hat
  obtain ⟨A2, c2, hvk, _⟩ := hk.shape
  have h1 : ∀ u ∈ ncells1 r, u.oneCell' = true := by
    intro u hu
    simp only [ncells1, List.mem_cons, List.not_mem_nil, or_false] at hu
    rcases hu with rfl | rfl | rfl | rfl | rfl
    · rfl
    · rfl
    · rw [hva]; rfl
    · rfl
    · rw [hvk]; rfl
  obtain ⟨v', w', hrun, own', hgr, hnew⟩ := run_append_new (w := w) base 22 o.type 28 i0 _ 5 88 Try.underlying22 hi hz0 hz1 hz2 rfl (by decide) v R.length (ncells R) hown ad 1 c (ncells1 r) rfl hnews h1 (by unfold maxLen; omega) (by omega) hbase
  unfold Oper.wp
  simp [execOp, ho, resolve, invoke, builtin, hs, hx, hrun, Result.andThen]
  have hSS : ∀ b, Sub lo w v b → Sub lo w' v' b := by
    intro b hb
    refine ⟨hb.1, Nat.lt_of_lt_of_le hb.2.1 hgr.size, ?_⟩
    rcases hnew with e | e
    · rw [e]; exact hb.2.2
    · intro hg
      have := e b hg
      have := hb.2.1
      omega
  have kp : Kept (Sub lo w v) w w' := Kept.grown hgr fun b hb => ⟨hb.2.1, fun e => hb.2.2 e.symm⟩
  refine (hK' v' w' ⟨R ++ [r], by simp, ?_, ?_, ?_, fun g hg hs => hs.2.2 hg⟩ hgr)
  · rw [List.length_append, ncells_append]
    have : ncells [r] = ncells1 r := by simp [ncells]
    rw [this]
    exact own'
  · intro q hq
    rcases List.mem_append.1 hq with hq | hq
    · exact ((hat0 q hq).keep kp).mono hSS
    · simp at hq
      subst hq
      exact (AttrsAt.keep hat kp).mono hSS
  · intro q hq
    rcases List.mem_append.1 hq with hq | hq
    · exact ((hk0 q hq).keep kp).mono hSS
    · simp at hq
      subst hq
      exact (hk.keep kp).mono hSS

/-- One node more. -/
theorem wpList_append_node {w : World} {ops : Array Oper} {rest : List Oper} {o : Oper} {a : Act} {Q : Exit → Act → World → Prop} (hgd : o.guard = none) (s x : Operand)
    (ho : o.op = .call { callee := .builtin .append, args := #[s, x], argTypes := #[22, 22] })
    (base lo : Nat) (l : List Nd) (v : Value) (hs : a.eval s = v) (h : OwnC w base lo l v) (r : Rn) (ad : Addr) (c : Nat) (hx : a.eval x = .slice (some ad) 1 c)
    (hnews : ∀ j u, (ncells1 r)[j]? = some u → w.cell? (ad.add j) = some u) (hat : AttrsAt (Sub lo w v) w r.n.attrs r.va) (hk : Tree (Sub lo w v) w r.n.kids r.vk)
    (hlen : l.length ≤ 1000000) (hbase : base ≤ w.heap.size)
    (hK : ∀ v' w', OwnC w' base lo (l ++ [r.n]) v' → w.grownBy w' v.ownBlock → wpList Try.prog ops Q rest (a.put o.dst v') w') :
    wpList Try.prog ops Q (o :: rest) a w := by
  exact wpList_plain hgd fun K hK' => wp_append_node s x ho base lo l v hs h r ad c hx hnews hat hk hlen hbase fun v' w' h1 h2 => hK' _ _ (hK v' w' h1 h2)

/-- One node more, at a step of a region that draws its order. -/
theorem step_append_node {w : World} {ops : Array Oper} {o : Oper} {a : Act} {K : Act → World → Prop} {Q : Exit → Act → World → Prop} {E : Prop} (hgd : o.guard = none) (s x : Operand)
    (ho : o.op = .call { callee := .builtin .append, args := #[s, x], argTypes := #[22, 22] })
    (base lo : Nat) (l : List Nd) (v : Value) (hs : a.eval s = v) (h : OwnC w base lo l v) (r : Rn) (ad : Addr) (c : Nat) (hx : a.eval x = .slice (some ad) 1 c)
    (hnews : ∀ j u, (ncells1 r)[j]? = some u → w.cell? (ad.add j) = some u) (hat : AttrsAt (Sub lo w v) w r.n.attrs r.va) (hk : Tree (Sub lo w v) w r.n.kids r.vk)
    (hlen : l.length ≤ 1000000) (hbase : base ≤ w.heap.size)
    (hK : ∀ v' w', OwnC w' base lo (l ++ [r.n]) v' → w.grownBy w' v.ownBlock → K (a.put o.dst v') w') :
    if Region.wanted o (yielded ops a.tmps) = true then Oper.wp Try.prog o a w K Q else E := by
  have hw : Region.wanted o (yielded ops a.tmps) = true := by simp [Region.wanted, hgd]
  rw [if_pos hw]
  exact wp_append_node s x ho base lo l v hs h r ad c hx hnews hat hk hlen hbase hK

theorem ncells_set (M : List Rn) (r : Rn) (t : ByteArray) : (ncells (M ++ [r])).set (M.length * 5 + 3) (.string t) = ncells (M ++ [⟨.mk r.n.kind r.n.name r.n.attrs t r.n.kids, r.va, r.vk⟩]) := by
  rw [ncells_append, ncells_append, List.set_append_right _ _ (by rw [ncells_length]; omega), ncells_length]
  rw [show M.length * 5 + 3 - M.length * 5 = 3 by omega]
  rfl

/-- A new node's cells, where they were laid. -/
theorem new_five (w : World) (t : TypeId) (r : Rn) : ∀ j u, (ncells1 r)[j]? = some u → (w.alloc (.cells #[.int .i64 r.n.kind, .string r.n.name, r.va, .string r.n.text, r.vk] t)).cell? ((⟨w.heap.size, 0, none⟩ : Addr).add j) = some u := by
  intro j u hj
  rw [add_zero_addr]
  match j, hj with
  | 0, hj => simp [ncells1] at hj; subst hj; simp
  | 1, hj => simp [ncells1] at hj; subst hj; simp
  | 2, hj => simp [ncells1] at hj; subst hj; simp
  | 3, hj => simp [ncells1] at hj; subst hj; simp
  | 4, hj => simp [ncells1] at hj; subst hj; simp
  | j + 5, hj => simp [ncells1] at hj

/-- What came in stays, while the call makes its own; its blocks are none of the call's own row. -/
theorem input_kept {w wr : World} {lo : Nat} {l : List Nd} {v : Value} (hb : Below w.heap.size w wr) (h : OwnC wr w.heap.size lo l v) (o : Obj) :
    Kept (fun b => lo ≤ b ∧ b < w.heap.size) w (wr.alloc o) ∧ ∀ b, (lo ≤ b ∧ b < w.heap.size) → Sub lo (wr.alloc o) v b := by
  refine ⟨Kept.belowB (hb.alloc hb.size _) fun b hb => hb.2, fun b hlt => ⟨hlt.1, ?_, fun e => ?_⟩⟩
  · have := hb.size
    simp
    omega
  · have := (OwnT.lt h b e).1
    omega

theorem OwnC.drew {w : World} {base lo : Nat} {l : List Nd} {v : Value} (h : OwnC w base lo l v) : OwnC w.drew base lo l v := h.later ((Below.refl _ _).drew)

theorem below_new (w : World) (o : Obj) : Below w.heap.size w (w.alloc o) := (Below.refl _ _).alloc (Nat.le_refl _) _

/-- The last node's cells. -/
theorem OwnC.last {w : World} {base lo n c : Nat} {A : Option Addr} {m : List Nd} {x : Nd} (h : OwnC w base lo (m ++ [x]) (.slice A n c)) :
    ∃ g, A = some ⟨g, 0, none⟩ ∧ n = m.length + 1 ∧ base ≤ g ∧ w.cell? ⟨g, m.length * 5, none⟩ = some (.int .i64 x.kind) ∧ w.cell? ⟨g, m.length * 5 + 3, none⟩ = some (.string x.text) ∧ w.frozen? ⟨g, m.length * 5 + 3, none⟩ = false := by
  obtain ⟨R, hl, hown, hat, hk, hn⟩ := h
  obtain ⟨A', c', hv, _⟩ := own_size hown
  have hnl : n = R.length := by injection hv
  subst hnl
  have hR : 0 < R.length := by
    have := congrArg List.length hl
    simp at this
    omega
  obtain ⟨M, r, rfl⟩ := snoc_of hR
  have hml : M.map Rn.n = m ∧ r.n = x := by
    rw [List.map_append] at hl
    have := List.append_inj' hl (by simp)
    exact ⟨this.1, by simpa using this.2⟩
  have hlen : m.length = M.length := by rw [← hml.1]; simp
  obtain ⟨g, rfl, hcells⟩ : ∃ g, A = some ⟨g, 0, none⟩ ∧ True := by
    rcases hown.2 with ⟨_, h0⟩ | ⟨g, cap, cur, hv, _⟩
    · simp at h0
    · injection hv with hA
      exact ⟨g, hA, trivial⟩
  have ha := ncells_at (R := M ++ [r]) (k := M.length) (r := r) (by simp)
  have hb := hown.lt g rfl
  rw [hlen]
  refine ⟨g, rfl, by simp, hb.1, ?_, ?_, ?_⟩
  · rw [hown.cellAt (M.length * 5) (by rw [List.length_append, List.length_singleton]; omega), ha.1, hml.2]
  · rw [hown.cellAt (M.length * 5 + 3) (by rw [List.length_append, List.length_singleton]; omega), ha.2.2.2.1, hml.2]
  · exact hown.frozenAt _

/-- The last node's text is another one. -/
theorem OwnC.text {w : World} {base lo g n c : Nat} {m : List Nd} {x : Nd} (h : OwnC w base lo (m ++ [x]) (.slice (some ⟨g, 0, none⟩) n c)) (t : ByteArray) :
    OwnC (w.setCell ⟨g, m.length * 5 + 3, none⟩ (.string t)) base lo (m ++ [.mk x.kind x.name x.attrs t x.kids]) (.slice (some ⟨g, 0, none⟩) n c) ∧ w.grownBy (w.setCell ⟨g, m.length * 5 + 3, none⟩ (.string t)) (some g) := by
  obtain ⟨R, hl, hown, hat, hk, hn⟩ := h
  obtain ⟨A, c', hv, _⟩ := own_size hown
  have hnl : n = R.length := by injection hv
  subst hnl
  have hR : 0 < R.length := by
    have := congrArg List.length hl
    simp at this
    omega
  obtain ⟨M, r, rfl⟩ := snoc_of hR
  have hml : M.map Rn.n = m ∧ r.n = x := by
    rw [List.map_append] at hl
    have := List.append_inj' hl (by simp)
    exact ⟨this.1, by simpa using this.2⟩
  have hlen : m.length = M.length := by rw [← hml.1]; simp
  have st := hown.stored (m.length * 5 + 3) (.string t)
  have hsz : (w.setCell ⟨g, m.length * 5 + 3, none⟩ (.string t)).heap.size = w.heap.size := by simp
  have kp : Kept (Sub lo w (.slice (some ⟨g, 0, none⟩) (M ++ [r]).length c)) w (w.setCell ⟨g, m.length * 5 + 3, none⟩ (.string t)) := Kept.grown st.2 fun b hb => ⟨hb.2.1, fun e => hb.2.2 (by injection e with e; subst e; rfl)⟩
  have hSS : ∀ b, Sub lo w (.slice (some ⟨g, 0, none⟩) (M ++ [r]).length c) b → Sub lo (w.setCell ⟨g, m.length * 5 + 3, none⟩ (.string t)) (.slice (some ⟨g, 0, none⟩) (M ++ [r]).length c) b := fun b hb => ⟨hb.1, by rw [hsz]; exact hb.2.1, hb.2.2⟩
  refine ⟨⟨M ++ [⟨.mk r.n.kind r.n.name r.n.attrs t r.n.kids, r.va, r.vk⟩], ?_, ?_, ?_, ?_, fun g hg hs => hs.2.2 hg⟩, st.2⟩
  · rw [List.map_append, hml.1, ← hml.2]
    rfl
  · have := st.1
    rw [hlen, ncells_set] at this
    rw [hlen]
    simpa using this
  · intro q hq
    rcases List.mem_append.1 hq with hq | hq
    · exact ((hat q (by simp [hq])).keep kp).mono hSS
    · simp at hq
      subst hq
      exact ((hat r (by simp)).keep kp).mono hSS
  · intro q hq
    rcases List.mem_append.1 hq with hq | hq
    · exact ((hk q (by simp [hq])).keep kp).mono hSS
    · simp at hq
      subst hq
      exact ((hk r (by simp)).keep kp).mono hSS

end Go.Proofs.Ytialfafjoemppaa

/- Part TbM. -/
namespace Go.Proofs.Ytialfafjoemppaa

/-- Bytes as a text. -/
def tB (l : List UInt8) : ByteArray := ⟨l.toArray⟩
theorem tB_list (l : List UInt8) : (tB l).data.toList = l := by simp [tB]
theorem tB_of (s : ByteArray) : tB s.data.toList = s := by
  apply ByteArray.ext
  simp [tB]
theorem tB_eq {s : ByteArray} {l : List UInt8} (h : s.data.toList = l) : s = tB l := by rw [← h, tB_of]
theorem tB_inj {a b : List UInt8} (h : tB a = tB b) : a = b := by
  have := congrArg (fun s : ByteArray => s.data.toList) h
  simpa [tB] using this
theorem bytes_inj {a b : ByteArray} (h : a.data.toList = b.data.toList) : a = b := by rw [tB_eq h, tB_of]
theorem tB_app (a b : List UInt8) : tB (a ++ b) = tB a ++ tB b := by
  apply ByteArray.ext
  simp [tB, ByteArray.data_append]
theorem tB_size (l : List UInt8) : (tB l).size = l.length := by simp [tB, ByteArray.size]

end Go.Proofs.Ytialfafjoemppaa

/- Part Norm. -/
namespace Go.Proofs.Ytialfafjoemppaa
set_option linter.unusedVariables false

theorem norm_13 (a : Int) (t : List Int) : norm a (13 :: t) = 10 :: norm 13 t := by simp [norm]
theorem norm_10 (t : List Int) : norm 13 (10 :: t) = norm 10 t := by simp [norm]
theorem norm_0 (a : Int) (t : List Int) : norm a (0 :: t) = 65533 :: norm 0 t := by simp [norm]
theorem norm_r {a r : Int} (t : List Int) (h1 : r ≠ 13) (h2 : ¬ (r = 10 ∧ a = 13)) (h3 : r ≠ 0) : norm a (r :: t) = r :: norm r t := by
  show (if r = 13 then [10] else if r = 10 ∧ a = 13 then [] else if r = 0 then [65533] else [r]) ++ norm r t = _
  rw [if_neg h1, if_neg h2, if_neg h3]
  rfl

end Go.Proofs.Ytialfafjoemppaa

/- Part MathV. -/
namespace Go.Proofs.Ytialfafjoemppaa
set_option linter.unusedVariables false

/-- May bytes begin as they do in a right text? -/
def okAt (l : List UInt8) : Bool := !(decide ((dec l).1 = 0) || decide ((dec l).1 = 13) || (decide ((dec l).1 = 65533) && !Lib.hasPrefix l [239, 191, 189]))

def isF : Nat → List UInt8 → Bool
  | 0, _ => true
  | f + 1, l => if l.length = 0 then true else okAt l && isF f (l.drop (dec l).2)
/-- Are bytes a right text? -/
def isB (l : List UInt8) : Bool := isF l.length l

theorem isF_fuel : ∀ (f g : Nat) (l : List UInt8), l.length ≤ f → l.length ≤ g → isF f l = isF g l
  | 0, 0, l, _, _ => rfl
  | 0, g + 1, l, h, _ => by
    have : l.length = 0 := by omega
    simp [isF, this]
  | f + 1, 0, l, _, h => by
    have : l.length = 0 := by omega
    simp [isF, this]
  | f + 1, g + 1, l, hf, hg => by
    unfold isF
    by_cases h0 : l.length = 0
    · rw [if_pos h0, if_pos h0]
    · have hw := dec_width (l := l) (by omega)
      rw [if_neg h0, if_neg h0, isF_fuel f g _ (by rw [List.length_drop]; omega) (by rw [List.length_drop]; omega)]

theorem isB_nil : isB [] = true := rfl
theorem isB_step {l : List UInt8} (h : 0 < l.length) : isB l = (okAt l && isB (l.drop (dec l).2)) := by
  have hw := dec_width h
  obtain ⟨m, hm⟩ : ∃ m, l.length = m + 1 := ⟨l.length - 1, by omega⟩
  unfold isB
  rw [hm]
  conv => lhs; unfold isF
  rw [if_neg (by omega), isF_fuel m _ _ (by rw [List.length_drop]; omega) (Nat.le_refl _)]

theorem isB_enc : ∀ L : List Int, (∀ r ∈ L, okN r) → isB (enc L) = true
  | [], _ => rfl
  | r :: L, h => by
    have hr := h r (by simp)
    have e := dec_enc hr.1 (enc L)
    have hn : 0 ≤ r := by have := hr.1; unfold okR at this; omega
    rw [enc_cons, isB_step (by have := (Lib.encodeRuneZ_length r).1; simp [Lib.encodeRune]; omega)]
    have e2 : (dec (Lib.encodeRune r ++ enc L)).2 = (Lib.encodeRune r).length := by rw [e]
    rw [e2, List.drop_left, isB_enc L (fun x hx => h x (by simp [hx])), Bool.and_true]
    unfold okAt
    rw [e]
    have h0 := hr.2.1
    have h13 := hr.2.2
    by_cases h6 : r = 65533
    · subst h6
      have e1 : Lib.encodeRune 65533 = [239, 191, 189] := by decide
      rw [e1]
      simp [Lib.hasPrefix]
    · have a1 : ¬ r.toNat = 0 := by omega
      have a2 : ¬ r.toNat = 13 := by omega
      have a3 : ¬ r.toNat = 65533 := by omega
      simp [a1, a2, a3]

theorem right_len (l : List UInt8) : (right l).length ≤ 4 * l.length := by
  have h1 := runes_len _ l (Nat.le_refl _)
  have h2 := norm_len (runes l) 0
  have h3 := enc_len (norm 0 (runes l))
  unfold right
  omega

theorem isB_right (l : List UInt8) : isB (right l) = true := isB_enc _ (norm_ok (runes l) 0 (runes_ok _ l (Nat.le_refl _)))

theorem isB_join (a b : List UInt8) : isB (right a ++ right b) = true := by
  unfold right
  rw [← enc_append]
  refine isB_enc _ (fun r hr => ?_)
  rcases List.mem_append.1 hr with h | h
  · exact norm_ok (runes a) 0 (runes_ok _ a (Nat.le_refl _)) r h
  · exact norm_ok (runes b) 0 (runes_ok _ b (Nat.le_refl _)) r h

theorem runes_right (a : List UInt8) : runes (right a) = norm 0 (runes a) := runes_enc _ (fun r hr => (norm_ok (runes a) 0 (runes_ok _ a (Nat.le_refl _)) r hr).1)

theorem runes_join (a b : List UInt8) : runes (right a ++ right b) = runes (right a) ++ runes (right b) := by
  rw [runes_right, runes_right]
  unfold right
  rw [← enc_append]
  refine runes_enc _ (fun r hr => ?_)
  rcases List.mem_append.1 hr with h | h
  · exact (norm_ok (runes a) 0 (runes_ok _ a (Nat.le_refl _)) r h).1
  · exact (norm_ok (runes b) 0 (runes_ok _ b (Nat.le_refl _)) r h).1

end Go.Proofs.Ytialfafjoemppaa

/- Part MathW. -/
namespace Go.Proofs.Ytialfafjoemppaa
set_option linter.unusedVariables false

theorem u8_of {c : UInt8} {x : Int} (h : x = (c.toNat : Int)) : x.toNat.toUInt8 = c := by
  subst h
  simp

theorem byt_at {l : List UInt8} {k : Nat} {c : UInt8} (h : l[k]? = some c) : byt l k = c.toNat := by
  unfold byt
  rw [List.getD_eq_getElem?_getD, h]
  rfl

theorem cont_nat {l : List UInt8} {k : Nat} (h : cont l k = true) : byt l k / 64 = 2 := by
  unfold cont at h
  simp at h
  exact h.2

theorem pre_wrong {l : List UInt8} (h : Lib.hasPrefix l [239, 191, 189] = true) : ∃ t, l = 239 :: 191 :: 189 :: t := by
  unfold Lib.hasPrefix at h
  match l, h with
  | [], h => simp [List.isPrefixOf] at h
  | [a], h => simp [List.isPrefixOf] at h
  | [a, b], h => simp [List.isPrefixOf] at h
  | a :: b :: c :: t, h =>
    simp [List.isPrefixOf] at h
    exact ⟨t, by rw [h.1, h.2.1, h.2.2]⟩

theorem dec_wrong (t : List UInt8) : dec (239 :: 191 :: 189 :: t) = (65533, 3) := by
  have b0 : byt (239 :: 191 :: 189 :: t) 0 = 239 := rfl
  have b1 : byt (239 :: 191 :: 189 :: t) 1 = 191 := rfl
  have b2 : byt (239 :: 191 :: 189 :: t) 2 = 189 := rfl
  have c1 : cont (239 :: 191 :: 189 :: t) 1 = true := by unfold cont; rw [b1]; simp
  have c2 : cont (239 :: 191 :: 189 :: t) 2 = true := by unfold cont; rw [b2]; simp
  unfold dec
  rw [b0, b1, b2, c1, c2]
  rfl

theorem two_more {a : UInt8} {l : List UInt8} (h : 2 < (a :: l).length) : ∃ b c l', l = b :: c :: l' := by
  match l, h with
  | [], h => simp at h
  | [b], h => simp at h
  | b :: c :: l', _ => exact ⟨b, c, l', rfl⟩
theorem three_more {a : UInt8} {l : List UInt8} (h : 3 < (a :: l).length) : ∃ b c d l', l = b :: c :: d :: l' := by
  match l, h with
  | [], h => simp at h
  | [b], h => simp at h
  | [b, c], h => simp at h
  | b :: c :: d :: l', _ => exact ⟨b, c, d, l', rfl⟩

theorem enc_dec {l : List UInt8} (h0 : 0 < l.length) (h : okAt l = true) : Lib.encodeRune ((dec l).1 : Int) = l.take (dec l).2 := by
  by_cases hp : Lib.hasPrefix l [239, 191, 189] = true
  · obtain ⟨t, rfl⟩ := pre_wrong hp
    rw [dec_wrong]
    rfl
  have hw : (dec l).1 ≠ 65533 := by
    intro e
    unfold okAt at h
    rw [e] at h
    simp at h
    exact hp h
  match l, h0 with
  | a :: l, _ =>
    have b0 : byt (a :: l) 0 = a.toNat := rfl
    have ha := a.toNat_lt
    unfold dec at hw ⊢
    rw [b0] at hw ⊢
    split
    · rename_i h1
      simp only [List.take_succ_cons, List.take_zero]
      unfold Lib.encodeRune
      rw [Lib.encodeRuneZ_one (by omega) (by omega)]
      simp only [List.map_cons, List.map_nil]
      rw [u8_of rfl]
    · rename_i h1
      rw [if_neg h1] at hw
      split
      · rename_i h2
        rw [if_pos h2] at hw
        have k1 := byt_len h2.2
        have n1 := cont_nat h2.2
        obtain ⟨b, l', rfl⟩ : ∃ b l', l = b :: l' := by cases l with | nil => simp at k1 | cons b l' => exact ⟨b, l', rfl⟩
        have b1 : byt (a :: b :: l') 1 = b.toNat := rfl
        rw [b1] at hw n1 ⊢
        split
        · rename_i h3
          simp only [List.take_succ_cons, List.take_zero]
          unfold Lib.encodeRune
          rw [Lib.encodeRuneZ_two (by omega) (by omega)]
          simp only [List.map_cons, List.map_nil]
          rw [u8_of (c := a) (by omega), u8_of (c := b) (by omega)]
        · rename_i h3; rw [if_neg h3] at hw; exact absurd rfl hw
      · rename_i h2
        rw [if_neg h2] at hw
        split
        · rename_i h3
          rw [if_pos h3] at hw
          have k1 := byt_len h3.2.1
          have k2 := byt_len h3.2.2
          have n1 := cont_nat h3.2.1
          have n2 := cont_nat h3.2.2
          obtain ⟨b, c, l', rfl⟩ := two_more k2
          have b1 : byt (a :: b :: c :: l') 1 = b.toNat := rfl
          have b2 : byt (a :: b :: c :: l') 2 = c.toNat := rfl
          rw [b1] at hw n1 ⊢
          rw [b2] at hw n2 ⊢
          split
          · rename_i h4
            simp only [List.take_succ_cons, List.take_zero]
            unfold Lib.encodeRune
            rw [Lib.encodeRuneZ_three (by omega)]
            simp only [List.map_cons, List.map_nil]
            have e1 : (224 + (((a.toNat % 16 * 4096 + b.toNat % 64 * 64 + c.toNat % 64 : Nat) : Int)) / 4096) = (a.toNat : Int) := by omega
            have e2 : (128 + (((a.toNat % 16 * 4096 + b.toNat % 64 * 64 + c.toNat % 64 : Nat) : Int)) / 64 % 64) = (b.toNat : Int) := by omega
            have e3 : (128 + (((a.toNat % 16 * 4096 + b.toNat % 64 * 64 + c.toNat % 64 : Nat) : Int)) % 64) = (c.toNat : Int) := by omega
            rw [u8_of e1, u8_of e2, u8_of e3]
          · rename_i h4; rw [if_neg h4] at hw; exact absurd rfl hw
        · rename_i h3
          rw [if_neg h3] at hw
          split
          · rename_i h4
            rw [if_pos h4] at hw
            have k3 := byt_len h4.2.2.2
            have n1 := cont_nat h4.2.1
            have n2 := cont_nat h4.2.2.1
            have n3 := cont_nat h4.2.2.2
            obtain ⟨b, c, d, l', rfl⟩ := three_more k3
            have b1 : byt (a :: b :: c :: d :: l') 1 = b.toNat := rfl
            have b2 : byt (a :: b :: c :: d :: l') 2 = c.toNat := rfl
            have b3 : byt (a :: b :: c :: d :: l') 3 = d.toNat := rfl
            rw [b1] at hw n1 ⊢
            rw [b2] at hw n2 ⊢
            rw [b3] at hw n3 ⊢
            split
            · rename_i h5
              simp only [List.take_succ_cons, List.take_zero]
              unfold Lib.encodeRune
              rw [Lib.encodeRuneZ_four (by omega) (by omega)]
              simp only [List.map_cons, List.map_nil]
              have e1 : (240 + (((a.toNat % 8 * 262144 + b.toNat % 64 * 4096 + c.toNat % 64 * 64 + d.toNat % 64 : Nat) : Int)) / 262144) = (a.toNat : Int) := by omega
              have e2 : (128 + (((a.toNat % 8 * 262144 + b.toNat % 64 * 4096 + c.toNat % 64 * 64 + d.toNat % 64 : Nat) : Int)) / 4096 % 64) = (b.toNat : Int) := by omega
              have e3 : (128 + (((a.toNat % 8 * 262144 + b.toNat % 64 * 4096 + c.toNat % 64 * 64 + d.toNat % 64 : Nat) : Int)) / 64 % 64) = (c.toNat : Int) := by omega
              have e4 : (128 + (((a.toNat % 8 * 262144 + b.toNat % 64 * 4096 + c.toNat % 64 * 64 + d.toNat % 64 : Nat) : Int)) % 64) = (d.toNat : Int) := by omega
              rw [u8_of e1, u8_of e2, u8_of e3, u8_of e4]
            · rename_i h5; rw [if_neg h5] at hw; exact absurd rfl hw
          · rename_i h4; rw [if_neg h4] at hw; exact absurd rfl hw

/-- A right text is the text of characters that may stand in one. -/
theorem isB_chars : ∀ (n : Nat) (l : List UInt8), l.length ≤ n → isB l = true → ∃ L, (∀ r ∈ L, okN r) ∧ l = enc L
  | 0, l, h, _ => ⟨[], by simp, List.eq_nil_of_length_eq_zero (by omega)⟩
  | n + 1, l, h, hb => by
    by_cases h0 : l.length = 0
    · exact ⟨[], by simp, List.eq_nil_of_length_eq_zero h0⟩
    · have hw := dec_width (l := l) (by omega)
      rw [isB_step (by omega), Bool.and_eq_true] at hb
      obtain ⟨L, ok, e⟩ := isB_chars n (l.drop (dec l).2) (by rw [List.length_drop]; omega) hb.2
      have he := enc_dec (l := l) (by omega) hb.1
      refine ⟨((dec l).1 : Int) :: L, ?_, ?_⟩
      · intro r hr
        rcases List.mem_cons.1 hr with rfl | hr
        · have h1 := hb.1
          unfold okAt at h1
          simp at h1
          exact ⟨dec_ok l, by omega, by omega⟩
        · exact ok r hr
      · rw [enc_cons, he, ← e, List.take_append_drop]

theorem right_of_isB {l : List UInt8} (h : isB l = true) : right l = l := by
  obtain ⟨L, ok, rfl⟩ := isB_chars _ l (Nat.le_refl _) h
  unfold right
  rw [runes_enc _ (fun r hr => (ok r hr).1), norm_same _ 0 (by omega) ok]
theorem isB_iff (l : List UInt8) : isB l = decide (right l = l) := by
  by_cases h : right l = l
  · rw [decide_eq_true h, ← h, isB_right]
  · rw [decide_eq_false h]
    cases hb : isB l with
    | false => rfl
    | true => exact absurd (right_of_isB hb) h

end Go.Proofs.Ytialfafjoemppaa

/- Part NamM. -/
namespace Go.Proofs.Ytialfafjoemppaa
set_option linter.unusedVariables false

/-- A letter a to z; a byte of an element's name; one that an attribute's name may have. -/
def smC (c : UInt8) : Bool := decide (97 ≤ c.toNat) && decide (c.toNat ≤ 122)
def namC (c : UInt8) : Bool := smC c || (decide (48 ≤ c.toNat) && decide (c.toNat ≤ 57)) || decide (c.toNat = 45)
def attC (c : UInt8) : Bool := !((decide (65 ≤ c.toNat) && decide (c.toNat ≤ 90)) || decide (c.toNat = 9) || decide (c.toNat = 10) || decide (c.toNat = 12) || decide (c.toNat = 32) || decide (c.toNat = 47) || decide (c.toNat = 62) || decide (c.toNat = 61))
def namedB : List UInt8 → Bool
  | [] => false
  | c :: t => smC c && (c :: t).all namC
def attrB (l : List UInt8) : Bool := isB l && l.all attC && !l.isEmpty
def voidB (l : List UInt8) : Bool := decide (l = [98, 114]) || decide (l = [104, 114]) || decide (l = [105, 109, 103]) || decide (l = [105, 110, 112, 117, 116]) || decide (l = [119, 98, 114])
def rawB (l : List UInt8) : Bool := decide (l = [115, 99, 114, 105, 112, 116]) || decide (l = [115, 116, 121, 108, 101])

theorem all_false {p : UInt8 → Bool} {l : List UInt8} {k : Nat} {c : UInt8} (h : l[k]? = some c) (hp : p c = false) : l.all p = false := by
  rw [List.all_eq_false]
  exact ⟨c, List.mem_of_getElem? h, by rw [hp]; simp⟩
theorem all_snoc (p : UInt8 → Bool) (l : List UInt8) (c : UInt8) : (l ++ [c]).all p = (l.all p && p c) := by simp

/-- A name's bytes are below 128: it is right. -/
theorem asc_right : ∀ (l : List UInt8), (∀ c ∈ l, c.toNat < 128 ∧ c.toNat ≠ 0 ∧ c.toNat ≠ 13) → isB l = true
  | [], _ => rfl
  | c :: t, h => by
    have hc := h c (by simp)
    have e : dec (c :: t) = (c.toNat, 1) := by
      unfold dec
      have e : byt (c :: t) 0 = c.toNat := rfl
      rw [e, if_pos hc.1]
    rw [isB_step (by simp)]
    unfold okAt
    rw [e]
    simp only [List.drop_succ_cons, List.drop_zero]
    rw [asc_right t (fun x hx => h x (by simp [hx]))]
    have h1 : ¬ c.toNat = 65533 := by omega
    simp [hc.2.1, hc.2.2, h1]
theorem namC_asc {c : UInt8} (h : namC c = true) : c.toNat < 128 ∧ c.toNat ≠ 0 ∧ c.toNat ≠ 13 := by
  unfold namC smC at h
  simp at h
  omega
theorem namedB_right {l : List UInt8} (h : namedB l = true) : isB l = true := by
  refine asc_right l fun c hc => ?_
  cases l with
  | nil => cases hc
  | cons a t =>
    unfold namedB at h
    rw [Bool.and_eq_true, List.all_eq_true] at h
    exact namC_asc (h.2 c hc)

end Go.Proofs.Ytialfafjoemppaa

/- Part RefM. -/
namespace Go.Proofs.Ytialfafjoemppaa
set_option linter.unusedVariables false

/-! ### names -/
def updF (f : List UInt8 → Option Int) (k : List UInt8) (v : Int) : List UInt8 → Option Int := fun l => if l = k then some v else f l
/-- A name's character. -/
def nameB : List UInt8 → Option Int :=
  updF (updF (updF (updF (updF (updF (updF (updF (updF (updF (updF (updF (updF (updF (updF (fun _ => none)
    [97, 109, 112] 38) [108, 116] 60) [103, 116] 62) [113, 117, 111, 116] 34) [97, 112, 111, 115] 39) [110, 98, 115, 112] 160) [99, 111, 112, 121] 169) [114, 101, 103] 174)
    [100, 101, 103] 176) [109, 105, 100, 100, 111, 116] 183) [116, 105, 109, 101, 115] 215) [110, 100, 97, 115, 104] 8211) [109, 100, 97, 115, 104] 8212) [104, 101, 108, 108, 105, 112] 8230) [101, 117, 114, 111] 8364

theorem updF_cases {f : List UInt8 → Option Int} {k : List UInt8} {v : Int} {P : List UInt8 → Int → Prop} (h0 : P k v) (h : ∀ l r, f l = some r → P l r) : ∀ l r, updF f k v l = some r → P l r := by
  intro l r hr
  unfold updF at hr
  split at hr
  · rename_i e; subst e; cases hr; exact h0
  · exact h l r hr

def okNB (r : Int) : Bool := decide ((0 ≤ r ∧ r < 55296) ∨ (57343 < r ∧ r ≤ 1114111)) && decide (r ≠ 0) && decide (r ≠ 13)
theorem okN_of {r : Int} (h : okNB r = true) : okN r := by
  unfold okNB at h
  simp at h
  unfold okN okR
  omega

theorem name_fact (l : List UInt8) (r : Int) (h : nameB l = some r) : 2 ≤ l.length ∧ l.length ≤ 6 ∧ okNB r = true := by
  revert l r
  unfold nameB
  iterate 15 refine updF_cases (P := fun l r => 2 ≤ l.length ∧ l.length ≤ 6 ∧ okNB r = true) (by decide) ?_
  intro l r h
  cases h

/-- Is a byte a small letter? -/
def isLow (c : UInt8) : Bool := decide (97 ≤ c.toNat) && decide (c.toNat ≤ 122)
/-- How many small letters bytes begin with. -/
def lowN (l : List UInt8) : Nat := (l.takeWhile isLow).length

theorem lowN_le (l : List UInt8) : lowN l ≤ l.length := by
  unfold lowN
  exact (List.takeWhile_sublist _).length_le
theorem lowN_take (l : List UInt8) : l.take (lowN l) = l.takeWhile isLow := by
  unfold lowN
  induction l with
  | nil => rfl
  | cons c t ih =>
    rw [List.takeWhile_cons]
    split
    · simp [ih]
    · simp

/-! ### numbers -/
/-- What a digit counts; -1, if it is none. -/
def digR (r : Int) : Int := if 48 ≤ r ∧ r ≤ 57 then r - 48 else if 97 ≤ r ∧ r ≤ 102 then r - 97 + 10 else if 65 ≤ r ∧ r ≤ 70 then r - 65 + 10 else -1
/-- The number of at most m digits with which bytes begin, from a on, and how many these are. -/
def digF : Nat → Int → Int → List UInt8 → Int × Nat
  | 0, _, a, _ => (a, 0)
  | _ + 1, _, a, [] => (a, 0)
  | m + 1, b, a, c :: t => if digR c.toNat < 0 ∨ b ≤ digR c.toNat then (a, 0) else ((digF m b (a * b + digR c.toNat) t).1, (digF m b (a * b + digR c.toNat) t).2 + 1)
/-- What a number stands for. -/
def charB (x : Int) : Int := if x = 0 ∨ x = 13 ∨ ¬ ((0 ≤ x ∧ x < 55296) ∨ (57343 < x ∧ x ≤ 1114111)) then 65533 else x
def numB (l : List UInt8) (k : Nat) (b : Int) (m : Nat) : Int × Nat := if (digF m b 0 (l.drop k)).2 = 0 then (0, 0) else (charB (digF m b 0 (l.drop k)).1, k + (digF m b 0 (l.drop k)).2)
/-- What the number or the name with which bytes begin stands for, and how many bytes it has. -/
def toldB (l : List UInt8) : Int × Nat :=
  if Lib.hasPrefix l [35, 120] = true then numB l 2 16 6
  else if Lib.hasPrefix l [35, 88] = true then numB l 2 16 6
  else if Lib.hasPrefix l [35] = true then numB l 1 10 7
  else match nameB (l.take (lowN l)) with
    | some r => (r, lowN l)
    | none => (0, 0)
/-- What the reference with which bytes begin stands for, and how many bytes it has. -/
def oneB (l : List UInt8) : Int × Nat :=
  if Lib.hasPrefix l [38] = true then
    if (toldB (l.drop 1)).2 = 0 then (0, 0)
    else if Lib.hasPrefix (l.drop (1 + (toldB (l.drop 1)).2)) [59] = true then ((toldB (l.drop 1)).1, (toldB (l.drop 1)).2 + 2) else (0, 0)
  else (0, 0)

theorem charB_ok (x : Int) : okN (charB x) := by
  unfold charB okN okR
  split <;> omega

theorem digR_bd (r : Int) : -1 ≤ digR r ∧ digR r ≤ 15 := by
  unfold digR
  repeat' split
  all_goals omega

theorem digF_len : ∀ (m : Nat) (b a : Int) (l : List UInt8), (digF m b a l).2 ≤ l.length ∧ (digF m b a l).2 ≤ m
  | 0, b, a, l => by simp [digF]
  | m + 1, b, a, [] => by simp [digF]
  | m + 1, b, a, c :: t => by
    unfold digF
    split
    · simp
    · have := digF_len m b (a * b + digR c.toNat) t
      simp only [List.length_cons]
      omega

/-- Small: bytes below 128, at the beginning. -/
def asc (l : List UInt8) (n : Nat) : Prop := ∀ j, j < n → byt l j < 128

theorem asc_cons {c : UInt8} {t : List UInt8} {n : Nat} (hc : c.toNat < 128) (h : asc t n) : asc (c :: t) (n + 1) := by
  intro j hj
  match j with
  | 0 => exact hc
  | j + 1 => exact h j (by omega)

theorem asc_zero (l : List UInt8) : asc l 0 := fun j hj => absurd hj (by omega)

theorem digR_asc {c : UInt8} (h : ¬ digR c.toNat < 0) : c.toNat < 128 := by
  unfold digR at h
  have := c.toNat_lt
  repeat' split at h
  all_goals omega

theorem digF_asc : ∀ (m : Nat) (b a : Int) (l : List UInt8), asc l (digF m b a l).2
  | 0, b, a, l => asc_zero l
  | m + 1, b, a, [] => asc_zero []
  | m + 1, b, a, c :: t => by
    unfold digF
    split
    · exact asc_zero _
    · exact asc_cons (digR_asc (by omega)) (digF_asc m b _ t)

theorem asc_drop {l : List UInt8} {k n : Nat} (h : asc (l.drop k) n) (h0 : asc l k) : asc l (k + n) := by
  intro j hj
  by_cases hk : j < k
  · exact h0 j hk
  · have := h (j - k) (by omega)
    unfold byt at this ⊢
    rw [List.getD_eq_getElem?_getD, List.getElem?_drop] at this
    rw [List.getD_eq_getElem?_getD]
    rw [show k + (j - k) = j by omega] at this
    exact this

theorem asc_low (l : List UInt8) : asc l (lowN l) := by
  unfold lowN
  induction l with
  | nil => exact asc_zero _
  | cons c t ih =>
    rw [List.takeWhile_cons]
    split
    · rename_i h
      unfold isLow at h
      simp at h
      exact asc_cons (by omega) ih
    · exact asc_zero _

theorem pre_one {l : List UInt8} {c : UInt8} (h : Lib.hasPrefix l [c] = true) : ∃ t, l = c :: t := by
  unfold Lib.hasPrefix at h
  cases l with
  | nil => simp [List.isPrefixOf] at h
  | cons x t => simp [List.isPrefixOf] at h; exact ⟨t, by rw [h]⟩
theorem pre_two {l : List UInt8} {c d : UInt8} (h : Lib.hasPrefix l [c, d] = true) : ∃ t, l = c :: d :: t := by
  unfold Lib.hasPrefix at h
  match l, h with
  | [], h => simp [List.isPrefixOf] at h
  | [x], h => simp [List.isPrefixOf] at h
  | x :: y :: t, h =>
    simp [List.isPrefixOf] at h
    exact ⟨t, by rw [h.1, h.2]⟩
theorem pre_cons (c : UInt8) (t : List UInt8) (d : UInt8) : Lib.hasPrefix (c :: t) [d] = decide (d = c) := by
  unfold Lib.hasPrefix
  simp only [List.isPrefixOf]
  by_cases h : d = c <;> simp [h]
theorem pre_nil (d : UInt8) : Lib.hasPrefix [] [d] = false := rfl

theorem numB_fact (l : List UInt8) (k : Nat) (b : Int) (m : Nat) (hk : k ≤ l.length) (h0 : asc l k) (h : (numB l k b m).2 ≠ 0) :
    okN (numB l k b m).1 ∧ k < (numB l k b m).2 ∧ (numB l k b m).2 ≤ k + m ∧ (numB l k b m).2 ≤ l.length ∧ asc l (numB l k b m).2 := by
  unfold numB at h ⊢
  split
  · rename_i e; rw [if_pos e] at h; exact absurd rfl h
  · rename_i e
    have hl := digF_len m b 0 (l.drop k)
    rw [List.length_drop] at hl
    exact ⟨charB_ok _, by simp only; omega, by simp only; omega, by simp only; omega, asc_drop (digF_asc m b 0 _) h0⟩

theorem told_fact (l : List UInt8) (h : (toldB l).2 ≠ 0) : okN (toldB l).1 ∧ 2 ≤ (toldB l).2 ∧ (toldB l).2 ≤ 8 ∧ (toldB l).2 ≤ l.length ∧ asc l (toldB l).2 := by
  unfold toldB at h ⊢
  split
  · rename_i e
    rw [if_pos e] at h
    obtain ⟨t, rfl⟩ := pre_two e
    have := numB_fact _ 2 16 6 (by simp) (asc_cons (by decide) (asc_cons (by decide) (asc_zero _))) h
    exact ⟨this.1, by omega, by omega, this.2.2.2.1, this.2.2.2.2⟩
  · rename_i e0
    rw [if_neg e0] at h
    split
    · rename_i e
      rw [if_pos e] at h
      obtain ⟨t, rfl⟩ := pre_two e
      have := numB_fact _ 2 16 6 (by simp) (asc_cons (by decide) (asc_cons (by decide) (asc_zero _))) h
      exact ⟨this.1, by omega, by omega, this.2.2.2.1, this.2.2.2.2⟩
    · rename_i e1
      rw [if_neg e1] at h
      split
      · rename_i e
        rw [if_pos e] at h
        obtain ⟨t, rfl⟩ := pre_one e
        have := numB_fact _ 1 10 7 (by simp) (asc_cons (by decide) (asc_zero _)) h
        exact ⟨this.1, by omega, by omega, this.2.2.2.1, this.2.2.2.2⟩
      · rename_i e2
        rw [if_neg e2] at h
        cases hn : nameB (l.take (lowN l)) with
        | none => rw [hn] at h; exact absurd rfl h
        | some r =>
          have hf := name_fact _ _ hn
          have hl := lowN_le l
          rw [List.length_take] at hf
          exact ⟨okN_of hf.2.2, by simp only; omega, by simp only; omega, hl, asc_low l⟩

theorem one_fact (l : List UInt8) (h : (oneB l).2 ≠ 0) : okN (oneB l).1 ∧ 4 ≤ (oneB l).2 ∧ (oneB l).2 ≤ 10 ∧ (oneB l).2 ≤ l.length ∧ asc l (oneB l).2 := by
  unfold oneB at h ⊢
  split
  · rename_i e
    rw [if_pos e] at h
    obtain ⟨t, rfl⟩ := pre_one e
    rw [List.drop_succ_cons, List.drop_zero] at h ⊢
    split
    · rename_i e1; rw [if_pos e1] at h; exact absurd rfl h
    · rename_i e1
      rw [if_neg e1] at h
      split
      · rename_i e2
        have hf := told_fact t e1
        obtain ⟨q, hq⟩ := pre_one e2
        have hlen := congrArg List.length hq
        rw [List.length_drop] at hlen
        simp only [List.length_cons] at hlen
        refine ⟨hf.1, by simp only; omega, by simp only; omega, by simp only [List.length_cons]; omega, ?_⟩
        have ha := asc_cons (c := 38) (by decide) hf.2.2.2.2
        have hb : asc (38 :: t) ((toldB t).2 + 1 + 1) := by
          refine asc_drop (n := 1) ?_ ha
          rw [Nat.add_comm] at hq
          rw [hq]
          exact asc_cons (by decide) (asc_zero _)
        exact hb
      · rename_i e2; rw [if_neg e2] at h; exact absurd rfl h
  · rename_i e; rw [if_neg e] at h; exact absurd rfl h

/-! ### decoded -/
def decF : Nat → List UInt8 → List UInt8
  | 0, _ => []
  | _ + 1, [] => []
  | f + 1, c :: t => if c = 38 then (if (oneB (c :: t)).2 = 0 then 38 :: decF f t else Lib.encodeRune (oneB (c :: t)).1 ++ decF f ((c :: t).drop (oneB (c :: t)).2)) else c :: decF f t
/-- Bytes with their references told. -/
def decB (l : List UInt8) : List UInt8 := decF l.length l

theorem decF_fuel : ∀ (f g : Nat) (l : List UInt8), l.length ≤ f → l.length ≤ g → decF f l = decF g l
  | 0, 0, l, _, _ => rfl
  | 0, g + 1, [], _, _ => rfl
  | 0, g + 1, c :: t, h, _ => by simp at h
  | f + 1, 0, [], _, _ => rfl
  | f + 1, 0, c :: t, _, h => by simp at h
  | f + 1, g + 1, [], _, _ => rfl
  | f + 1, g + 1, c :: t, hf, hg => by
    simp only [List.length_cons] at hf hg
    unfold decF
    rw [decF_fuel f g t (by omega) (by omega)]
    by_cases h1 : (oneB (c :: t)).2 = 0
    · rw [if_pos h1, if_pos h1]
    · rw [if_neg h1, if_neg h1, decF_fuel f g ((c :: t).drop (oneB (c :: t)).2) (by rw [List.length_drop, List.length_cons]; omega) (by rw [List.length_drop, List.length_cons]; omega)]

theorem decB_nil : decB [] = [] := rfl
theorem decB_cons (c : UInt8) (t : List UInt8) : decB (c :: t) = if c = 38 then (if (oneB (c :: t)).2 = 0 then 38 :: decB t else Lib.encodeRune (oneB (c :: t)).1 ++ decB ((c :: t).drop (oneB (c :: t)).2)) else c :: decB t := by
  unfold decB
  show decF (t.length + 1) (c :: t) = _
  conv => lhs; unfold decF
  by_cases h1 : (oneB (c :: t)).2 = 0
  · rw [if_pos h1, if_pos h1]
  · rw [if_neg h1, if_neg h1, decF_fuel t.length _ ((c :: t).drop (oneB (c :: t)).2) (by rw [List.length_drop, List.length_cons]; omega) (Nat.le_refl _)]

/-- Bytes without & stay. -/
theorem decB_skip : ∀ (p t : List UInt8), (∀ c ∈ p, c ≠ 38) → decB (p ++ t) = p ++ decB t
  | [], t, _ => rfl
  | c :: p, t, h => by
    rw [List.cons_append, decB_cons, if_neg (h c (by simp)), decB_skip p t (fun x hx => h x (by simp [hx]))]
    rfl
theorem decB_none {l : List UInt8} (h : ∀ c ∈ l, c ≠ 38) : decB l = l := by
  have := decB_skip l [] h
  simpa [decB_nil] using this
theorem decB_ref {t : List UInt8} (h : (oneB (38 :: t)).2 ≠ 0) : decB (38 :: t) = Lib.encodeRune (oneB (38 :: t)).1 ++ decB ((38 :: t).drop (oneB (38 :: t)).2) := by
  rw [decB_cons, if_pos rfl, if_neg h]
theorem decB_amp {t : List UInt8} (h : (oneB (38 :: t)).2 = 0) : decB (38 :: t) = 38 :: decB t := by
  rw [decB_cons, if_pos rfl, if_pos h]

theorem encodeRune_le (r : Int) : 1 ≤ (Lib.encodeRune r).length ∧ (Lib.encodeRune r).length ≤ 4 := by
  have := Lib.encodeRuneZ_length r
  simpa [Lib.encodeRune] using this

theorem decB_len : ∀ (n : Nat) (l : List UInt8), l.length ≤ n → (decB l).length ≤ l.length
  | 0, l, h => by
    have : l = [] := List.eq_nil_of_length_eq_zero (by omega)
    subst this
    simp [decB_nil]
  | n + 1, [], h => by simp [decB_nil]
  | n + 1, c :: t, h => by
    simp only [List.length_cons] at h
    rw [decB_cons]
    split
    · split
      · have := decB_len n t (by omega)
        simp only [List.length_cons]
        omega
      · rename_i h1
        have hf := one_fact _ h1
        have he := encodeRune_le (oneB (c :: t)).1
        have := decB_len n ((c :: t).drop (oneB (c :: t)).2) (by rw [List.length_drop, List.length_cons]; omega)
        rw [List.length_drop] at this
        simp only [List.length_append]
        omega
    · have := decB_len n t (by omega)
      simp only [List.length_cons]
      omega

/-! ### written -/
theorem take_snoc' {l : List UInt8} {k : Nat} {c : UInt8} (h : l[k]? = some c) : l.take (k + 1) = l.take k ++ [c] := by rw [List.take_add_one, h]; rfl

/-- What a byte is written as. -/
def wrB (v : Bool) (c : UInt8) : List UInt8 :=
  if c = 38 then [38, 97, 109, 112, 59] else if c = 60 then [38, 108, 116, 59] else if c = 62 then [38, 103, 116, 59] else if c = 34 ∧ v = true then [38, 113, 117, 111, 116, 59] else []
def wrC (v : Bool) (c : UInt8) : List UInt8 := if wrB v c = [] then [c] else wrB v c
/-- Bytes, written. -/
def escB (v : Bool) (l : List UInt8) : List UInt8 := l.flatMap (wrC v)

theorem wrC_same {v : Bool} {c : UInt8} (h : wrB v c = []) : wrC v c = [c] := by unfold wrC; rw [if_pos h]
theorem wrC_other {v : Bool} {c : UInt8} (h : wrB v c ≠ []) : wrC v c = wrB v c := by unfold wrC; rw [if_neg h]

theorem escB_nil (v : Bool) : escB v [] = [] := rfl
theorem escB_cons (v : Bool) (c : UInt8) (t : List UInt8) : escB v (c :: t) = wrC v c ++ escB v t := by simp [escB]
theorem escB_append (v : Bool) (a b : List UInt8) : escB v (a ++ b) = escB v a ++ escB v b := by simp [escB]

theorem wrB_len (v : Bool) (c : UInt8) : (wrB v c).length ≤ 6 := by
  unfold wrB
  repeat' split
  all_goals simp
theorem wrC_len (v : Bool) (c : UInt8) : 1 ≤ (wrC v c).length ∧ (wrC v c).length ≤ 6 := by
  have := wrB_len v c
  unfold wrC
  split
  · simp
  · rename_i h
    have : (wrB v c).length ≠ 0 := fun e => h (List.eq_nil_of_length_eq_zero e)
    omega
theorem escB_len (v : Bool) : ∀ l : List UInt8, l.length ≤ (escB v l).length ∧ (escB v l).length ≤ 6 * l.length
  | [] => by simp [escB_nil]
  | c :: t => by
    have := wrC_len v c
    have := escB_len v t
    rw [escB_cons, List.length_append, List.length_cons]
    omega

theorem one_amp (t : List UInt8) : oneB (38 :: 97 :: 109 :: 112 :: 59 :: t) = (38, 5) := rfl
theorem one_lt (t : List UInt8) : oneB (38 :: 108 :: 116 :: 59 :: t) = (60, 4) := rfl
theorem one_gt (t : List UInt8) : oneB (38 :: 103 :: 116 :: 59 :: t) = (62, 4) := rfl
theorem one_quot (t : List UInt8) : oneB (38 :: 113 :: 117 :: 111 :: 116 :: 59 :: t) = (34, 6) := rfl

theorem dec_wr (v : Bool) (c : UInt8) (t : List UInt8) : decB (wrC v c ++ t) = c :: decB t := by
  unfold wrC wrB
  by_cases h1 : c = 38
  · subst h1
    rw [if_pos rfl, if_neg (by simp)]
    show decB (38 :: 97 :: 109 :: 112 :: 59 :: t) = _
    rw [decB_ref (by rw [one_amp]; simp), one_amp]
    rfl
  rw [if_neg h1]
  by_cases h2 : c = 60
  · subst h2
    rw [if_pos rfl, if_neg (by simp)]
    show decB (38 :: 108 :: 116 :: 59 :: t) = _
    rw [decB_ref (by rw [one_lt]; simp), one_lt]
    rfl
  rw [if_neg h2]
  by_cases h3 : c = 62
  · subst h3
    rw [if_pos rfl, if_neg (by simp)]
    show decB (38 :: 103 :: 116 :: 59 :: t) = _
    rw [decB_ref (by rw [one_gt]; simp), one_gt]
    rfl
  rw [if_neg h3]
  by_cases h4 : c = 34 ∧ v = true
  · rw [if_pos h4]
    obtain ⟨rfl, rfl⟩ := h4
    rw [if_neg (by simp)]
    show decB (38 :: 113 :: 117 :: 111 :: 116 :: 59 :: t) = _
    rw [decB_ref (by rw [one_quot]; simp), one_quot]
    rfl
  rw [if_neg h4, if_pos rfl]
  show decB (c :: t) = _
  rw [decB_cons, if_neg h1]

theorem dec_esc (v : Bool) : ∀ l : List UInt8, decB (escB v l) = l
  | [] => rfl
  | c :: t => by rw [escB_cons, dec_wr, dec_esc v t]

/-- Of what is written no byte is <, >, or (in a value) a quote. -/
theorem wr_bare (x : UInt8) : ∀ c ∈ wrC true x, c ≠ 60 ∧ c ≠ 62 ∧ c ≠ 34 := by
  unfold wrC
  by_cases h1 : x = 38
  · subst h1; decide
  by_cases h2 : x = 60
  · subst h2; decide
  by_cases h3 : x = 62
  · subst h3; decide
  by_cases h4 : x = 34
  · subst h4; decide
  have e : wrB true x = [] := by
    unfold wrB
    rw [if_neg h1, if_neg h2, if_neg h3, if_neg (fun h => h4 h.1)]
  rw [if_pos e]
  intro c hc
  simp at hc
  subst hc
  exact ⟨h2, h3, h4⟩
theorem esc_bare (l : List UInt8) : ∀ c ∈ escB true l, c ≠ 60 ∧ c ≠ 62 ∧ c ≠ 34 := by
  intro c hc
  unfold escB at hc
  obtain ⟨x, _, hx⟩ := List.mem_flatMap.1 hc
  exact wr_bare x c hx

/-! ### right texts -/
theorem enc_one {r : Int} (h0 : 0 ≤ r) (h1 : r ≤ 127) : Lib.encodeRune r = [r.toNat.toUInt8] := by unfold Lib.encodeRune; rw [Lib.encodeRuneZ_one h0 h1]; rfl

theorem enc_high {r : Int} (h0 : okR r) (h1 : 127 < r) : ∀ c ∈ Lib.encodeRune r, 128 ≤ c.toNat := by
  intro c hc
  unfold Lib.encodeRune at hc
  obtain ⟨x, hx, rfl⟩ := List.mem_map.1 hc
  have hb := Lib.encodeRuneZ_byte r x hx
  have : 128 ≤ x := by
    unfold okR at h0
    unfold Lib.encodeRuneZ at hx
    repeat' split at hx
    all_goals simp at hx
    all_goals omega
  simp
  omega

theorem enc_drop : ∀ (n : Nat) (L : List Int), (∀ r ∈ L, okR r) → asc (enc L) n → n ≤ (enc L).length → (enc L).drop n = enc (L.drop n)
  | 0, L, _, _, _ => rfl
  | n + 1, [], _, _, h => by simp [enc_nil] at h
  | n + 1, r :: L, hok, ha, hn => by
    have hr := hok r (by simp)
    have h0 : 0 ≤ r := by unfold okR at hr; omega
    by_cases h1 : r ≤ 127
    · rw [enc_cons, enc_one h0 h1] at ha hn ⊢
      simp only [List.cons_append, List.nil_append, List.length_cons] at ha hn ⊢
      rw [List.drop_succ_cons, List.drop_succ_cons]
      refine enc_drop n L (fun x hx => hok x (by simp [hx])) (fun j hj => ?_) (by omega)
      exact ha (j + 1) (by omega)
    · exfalso
      have hh := enc_high hr (by omega)
      have hl := encodeRune_le r
      rw [enc_cons] at ha
      have := ha 0 (by omega)
      cases he : Lib.encodeRune r with
      | nil => rw [he] at hl; simp at hl
      | cons c t =>
        rw [he] at this hh
        have h2 := hh c (by simp)
        have e : byt (c :: t ++ enc L) 0 = c.toNat := rfl
        omega

theorem dec_right : ∀ (n : Nat) (L : List Int), L.length ≤ n → (∀ r ∈ L, okN r) → ∃ L', (∀ r ∈ L', okN r) ∧ decB (enc L) = enc L'
  | 0, L, h, _ => by
    have : L = [] := List.eq_nil_of_length_eq_zero (by omega)
    subst this
    exact ⟨[], by simp, rfl⟩
  | n + 1, [], h, _ => ⟨[], by simp, rfl⟩
  | n + 1, r :: L, h, hok => by
    simp only [List.length_cons] at h
    have hr := hok r (by simp)
    have hL : ∀ x ∈ L, okN x := fun x hx => hok x (by simp [hx])
    have h0 : 0 ≤ r := by have := hr.1; unfold okR at this; omega
    obtain ⟨L1, ok1, e1⟩ := dec_right n L (by omega) hL
    have hcons : decB (enc (r :: L)) = Lib.encodeRune r ++ decB (enc L) → ∃ L', (∀ r ∈ L', okN r) ∧ decB (enc (r :: L)) = enc L' := by
      intro e
      refine ⟨r :: L1, ?_, by rw [e, e1, enc_cons]⟩
      intro x hx
      rcases List.mem_cons.1 hx with rfl | hx
      · exact hr
      · exact ok1 x hx
    by_cases h1 : r ≤ 127
    · have ee := enc_one h0 h1
      by_cases h38 : r = 38
      · subst h38
        have e38 : enc (38 :: L) = 38 :: enc L := by rw [enc_cons, ee]; rfl
        by_cases ho : (oneB (38 :: enc L)).2 = 0
        · exact hcons (by rw [e38, decB_amp ho, ee]; rfl)
        · have hf := one_fact _ ho
          rw [← e38] at hf
          have hd := enc_drop _ _ (fun x hx => (hok x hx).1) hf.2.2.2.2 hf.2.2.2.1
          obtain ⟨L2, ok2, e2⟩ := dec_right n ((38 :: L).drop (oneB (enc (38 :: L))).2) (by rw [List.length_drop, List.length_cons]; omega) (fun x hx => hok x (List.mem_of_mem_drop hx))
          refine ⟨(oneB (enc (38 :: L))).1 :: L2, ?_, ?_⟩
          · intro x hx
            rcases List.mem_cons.1 hx with rfl | hx
            · exact hf.1
            · exact ok2 x hx
          · rw [e38, decB_ref ho, ← e38, hd, e2]
            exact (enc_cons _ _).symm
      · refine hcons ?_
        rw [enc_cons, ee]
        refine decB_skip _ _ ?_
        intro c hc
        simp at hc
        subst hc
        intro e
        have := congrArg UInt8.toNat e
        simp at this
        omega
    · refine hcons ?_
      rw [enc_cons]
      refine decB_skip _ _ ?_
      intro c hc e
      have := enc_high hr.1 (by omega) c hc
      rw [e] at this
      simp at this

theorem wr_high {v : Bool} {c : UInt8} (h : 128 ≤ c.toNat) : wrC v c = [c] := by
  have h1 : c ≠ 38 := by rintro rfl; simp at h
  have h2 : c ≠ 60 := by rintro rfl; simp at h
  have h3 : c ≠ 62 := by rintro rfl; simp at h
  have h4 : ¬ (c = 34 ∧ v = true) := by rintro ⟨rfl, _⟩; simp at h
  unfold wrC wrB
  rw [if_neg h1, if_neg h2, if_neg h3, if_neg h4, if_pos rfl]

theorem esc_high (v : Bool) : ∀ l : List UInt8, (∀ c ∈ l, 128 ≤ c.toNat) → escB v l = l
  | [], _ => rfl
  | c :: t, h => by rw [escB_cons, wr_high (h c (by simp)), esc_high v t (fun x hx => h x (by simp [hx]))]; rfl

theorem wr_right (v : Bool) {r : Int} (hr : okN r) (h1 : r ≤ 127) : ∃ L', (∀ x ∈ L', okN x) ∧ escB v (Lib.encodeRune r) = enc L' := by
  have h0 : 0 ≤ r := by have := hr.1; unfold okR at this; omega
  have ee := enc_one h0 h1
  have e2 : escB v (Lib.encodeRune r) = wrC v r.toNat.toUInt8 := by rw [ee, escB_cons, escB_nil, List.append_nil]
  rw [e2]
  by_cases hw : wrB v r.toNat.toUInt8 = []
  · refine ⟨[r], by intro x hx; simp at hx; subst hx; exact hr, ?_⟩
    unfold wrC
    rw [if_pos hw, enc_cons, enc_nil, List.append_nil, ee]
  · unfold wrC
    rw [if_neg hw]
    unfold wrB at hw ⊢
    split
    · exact ⟨[38, 97, 109, 112, 59], by intro x hx; exact okN_of (by simp at hx; rcases hx with rfl | rfl | rfl | rfl | rfl <;> decide), rfl⟩
    split
    · exact ⟨[38, 108, 116, 59], by intro x hx; exact okN_of (by simp at hx; rcases hx with rfl | rfl | rfl | rfl <;> decide), rfl⟩
    split
    · exact ⟨[38, 103, 116, 59], by intro x hx; exact okN_of (by simp at hx; rcases hx with rfl | rfl | rfl | rfl <;> decide), rfl⟩
    split
    · exact ⟨[38, 113, 117, 111, 116, 59], by intro x hx; exact okN_of (by simp at hx; rcases hx with rfl | rfl | rfl | rfl | rfl | rfl <;> decide), rfl⟩
    · exact ⟨[], by simp, rfl⟩

theorem esc_right (v : Bool) : ∀ L : List Int, (∀ r ∈ L, okN r) → ∃ L', (∀ r ∈ L', okN r) ∧ escB v (enc L) = enc L'
  | [], _ => ⟨[], by simp, rfl⟩
  | r :: L, hok => by
    have hr := hok r (by simp)
    obtain ⟨L1, ok1, e1⟩ := esc_right v L (fun x hx => hok x (by simp [hx]))
    obtain ⟨L2, ok2, e2⟩ : ∃ L2, (∀ x ∈ L2, okN x) ∧ escB v (Lib.encodeRune r) = enc L2 := by
      by_cases h1 : r ≤ 127
      · exact wr_right v hr h1
      · exact ⟨[r], by intro x hx; simp at hx; subst hx; exact hr, by rw [esc_high v _ (enc_high hr.1 (by omega)), enc_cons, enc_nil, List.append_nil]⟩
    refine ⟨L2 ++ L1, ?_, by rw [enc_cons, escB_append, e1, e2, enc_append]⟩
    intro x hx
    rcases List.mem_append.1 hx with h | h
    · exact ok2 x h
    · exact ok1 x h

/-! ### digits of a number -/
/-- The number of digits, from a on. -/
def valB (b a : Int) (l : List UInt8) : Int := l.foldl (fun x c => x * b + digR c.toNat) a

theorem digF_val : ∀ (T : List UInt8) (m : Nat) (b a : Int) (t : List UInt8), (∀ c ∈ T, 0 ≤ digR c.toNat ∧ digR c.toNat < b) → T.length ≤ m → (∀ c q, t = c :: q → digR c.toNat < 0) →
    digF m b a (T ++ t) = (valB b a T, T.length)
  | [], 0, b, a, t, _, _, _ => rfl
  | [], m + 1, b, a, [], _, _, _ => rfl
  | [], m + 1, b, a, c :: q, _, _, ht => by
    show digF (m + 1) b a (c :: q) = _
    unfold digF
    rw [if_pos (Or.inl (ht c q rfl))]
    rfl
  | c :: T, 0, b, a, t, _, h, _ => by simp at h
  | c :: T, m + 1, b, a, t, hT, h, ht => by
    have hc := hT c (by simp)
    show digF (m + 1) b a (c :: (T ++ t)) = _
    unfold digF
    rw [if_neg (by omega), digF_val T m b _ t (fun x hx => hT x (by simp [hx])) (by simpa using h) ht]
    rfl

theorem pre_two_no {c d x y : UInt8} {t : List UInt8} (h : d ≠ y) : Lib.hasPrefix (x :: y :: t) [c, d] = false := by
  unfold Lib.hasPrefix
  simp only [List.isPrefixOf]
  simp [h]

theorem one_num {r : Int} {n : Nat} {u : List UInt8} (ht : toldB u = (r, n)) (hn : n ≠ 0) (hu : Lib.hasPrefix (u.drop n) [59] = true) : oneB (38 :: u) = (r, n + 2) := by
  unfold oneB
  rw [if_pos (by rw [pre_cons]; rfl), List.drop_succ_cons, List.drop_zero, ht]
  simp only
  rw [if_neg hn, show 1 + n = n + 1 by omega, List.drop_succ_cons, if_pos hu]

theorem one_tens {T : List UInt8} {n : Int} (hT : ∀ c ∈ T, 48 ≤ c.toNat ∧ c.toNat ≤ 57) (h0 : T ≠ []) (h7 : T.length ≤ 7) (hv : valB 10 0 T = n) (hok : okN n) :
    oneB (38 :: 35 :: (T ++ [59, 120])) = (n, T.length + 3) := by
  have hd : ∀ c ∈ T, 0 ≤ digR c.toNat ∧ digR c.toNat < 10 := by
    intro c hc
    have := hT c hc
    unfold digR
    rw [if_pos (by omega)]
    omega
  have hF := digF_val T 7 10 0 [59, 120] hd h7 (by intro c q h; cases h; decide)
  obtain ⟨c, T', rfl⟩ : ∃ c T', T = c :: T' := by cases T with | nil => exact absurd rfl h0 | cons c t => exact ⟨c, t, rfl⟩
  have hc := hT c (by simp)
  have ht : toldB (35 :: (c :: T' ++ [59, 120])) = (n, (c :: T').length + 1) := by
    unfold toldB
    have p1 : Lib.hasPrefix (35 :: (c :: T' ++ [59, 120])) [35, 120] = false := pre_two_no (by rintro rfl; simp at hc)
    have p2 : Lib.hasPrefix (35 :: (c :: T' ++ [59, 120])) [35, 88] = false := pre_two_no (by rintro rfl; simp at hc)
    rw [if_neg (by rw [p1]; simp), if_neg (by rw [p2]; simp), if_pos (by rw [pre_cons]; rfl)]
    unfold numB
    rw [List.drop_succ_cons, List.drop_zero, hF, hv]
    simp only
    rw [if_neg (by simp)]
    unfold charB
    rw [if_neg (by unfold okN okR at hok; omega), Nat.add_comm]
  have := one_num ht (by omega) (by rw [List.drop_succ_cons, List.drop_left]; rfl)
  rw [this]

theorem one_sixteens {T : List UInt8} {n : Int} (hT : ∀ c ∈ T, 0 ≤ digR c.toNat) (h0 : T ≠ []) (h6 : T.length ≤ 6) (hv : valB 16 0 T = n) (hok : okN n) :
    oneB (38 :: 35 :: 120 :: (T ++ [59, 120])) = (n, T.length + 4) := by
  have hd : ∀ c ∈ T, 0 ≤ digR c.toNat ∧ digR c.toNat < 16 := by
    intro c hc
    have := hT c hc
    have := digR_bd c.toNat
    omega
  have hF := digF_val T 6 16 0 [59, 120] hd h6 (by intro c q h; cases h; decide)
  have hl : T.length ≠ 0 := fun e => h0 (List.eq_nil_of_length_eq_zero e)
  have ht : toldB (35 :: 120 :: (T ++ [59, 120])) = (n, T.length + 2) := by
    unfold toldB
    have p1 : Lib.hasPrefix (35 :: 120 :: (T ++ [59, 120])) [35, 120] = true := by
      unfold Lib.hasPrefix
      simp [List.isPrefixOf]
    rw [if_pos p1]
    unfold numB
    rw [List.drop_succ_cons, List.drop_succ_cons, List.drop_zero, hF, hv]
    simp only
    rw [if_neg hl]
    unfold charB
    rw [if_neg (by unfold okN okR at hok; omega), Nat.add_comm]
  have := one_num ht (by omega) (by rw [List.drop_succ_cons, List.drop_succ_cons, List.drop_left]; rfl)
  rw [this]

end Go.Proofs.Ytialfafjoemppaa
