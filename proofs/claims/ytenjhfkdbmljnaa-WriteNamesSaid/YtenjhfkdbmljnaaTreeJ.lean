/- A list of the call's own: another list behind it. -/
import Derived.Test.YtenjhfkdbmljnaaTreeA
namespace Go.Proofs.Ytenjhfkdbmljnaa
open Go.RowKit
set_option linter.unusedVariables false

theorem add_addr (b o j : Nat) : (⟨b, o, none⟩ : Addr).add j = ⟨b, o + j, none⟩ := by
  unfold Addr.add
  split
  · rename_i h0; subst h0; rfl
  · rfl

theorem run_append_zero {w : World} (base : Nat) (t ty e : TypeId) (i : TypeInfo) (size : Nat) (ht : Try.prog.underlying t = some (.slice e)) (hi : Try.prog.info? e = some i)
    (v : Value) (n : Nat) (xs : List Value) (hown : w.ownsRow base e size v n xs) (A : Option Addr) (c : Nat) :
    (Builtin.append_ #[t, t] ty #[v, .slice A 0 c]).run Try.prog w = .ok v w := by
  rcases hown.2 with ⟨rfl, rfl⟩ | ⟨g, cap, cur, rfl, _, _, hnc, _⟩
  · cases A <;> simp [Builtin.append_, run_underlying ht, sizeOf, typeInfo, hi, Builtin.lenOf, Builtin.firstCells, loadCells, loadCellsFrom]
  · cases A <;> simp [Builtin.append_, run_underlying ht, sizeOf, typeInfo, hi, Builtin.lenOf, Builtin.firstCells, hnc, storeCells, loadCells, loadCellsFrom]

/-- A list more. -/
theorem wpList_append_tree {w : World} {ops : Array Oper} {rest : List Oper} {o : Oper} {a : Act} {Q : Exit → Act → World → Prop} (hgd : o.guard = none) (s x : Operand)
    (ho : o.op = .call { callee := .builtin .append, args := #[s, x], argTypes := #[22, 22] })
    (base lo : Nat) (l : List Nd) (v : Value) (hs : a.eval s = v) (h : OwnC w base lo l v) (m : List Nd) (vx : Value) (hx : a.eval x = vx) (hm : Tree (Sub lo w v) w m vx)
    (hlen : l.length + m.length ≤ 1000000) (hbase : base ≤ w.heap.size)
    (hK : ∀ v' w', OwnC w' base lo (l ++ m) v' → w.grownBy w' v.ownBlock → wpList Try.prog ops Q rest (a.put o.dst v') w') :
    wpList Try.prog ops Q (o :: rest) a w := by
  refine wpList_plain hgd fun K hK' => ?_
  obtain ⟨i0, hi, hz0, hz1, hz2⟩ := info_parts info_node
  obtain ⟨R, rfl, hown, hat0, hk0, hn⟩ := id h
  rw [List.length_map] at hlen
  cases hm with
  | mk M _ A c hl hc hcell hat hkids =>
    subst hl
    by_cases h0 : M = []
    · subst h0
      have hrun := run_append_zero (w := w) base 22 o.type 29 i0 5 Try.underlying22 hi v R.length (ncells R) hown A c
      have hx' : a.eval x = .slice A 0 c := hx
      unfold Oper.wp
      simp [execOp, ho, resolve, invoke, builtin, hs, hx', hrun, Result.andThen]
      refine hK' _ _ (hK v w ?_ ⟨rfl, rfl, rfl, Nat.le_refl _, fun _ _ _ => rfl⟩)
      simpa using h
    · have hM : 0 < M.length := List.length_pos_iff.2 h0
      obtain ⟨b, o', rfl, hS, hcl⟩ := hcell (by rw [ncells_length]; omega)
      have h1 : ∀ u ∈ ncells M, u.oneCell' = true := by
        intro u hu
        rw [ncells, List.mem_flatMap] at hu
        obtain ⟨r, hr, hu⟩ := hu
        obtain ⟨A1, c1, hva, _⟩ := hat r hr
        obtain ⟨A2, c2, hvk, _⟩ := (hkids r hr).shape
        simp only [ncells1, List.mem_cons, List.not_mem_nil, or_false] at hu
        rcases hu with rfl | rfl | rfl | rfl | rfl
        · rfl
        · rfl
        · rw [hva]; rfl
        · rfl
        · rw [hvk]; rfl
      have hx' : a.eval x = .slice (some ⟨b, o', none⟩) M.length c := by rw [hx, List.length_map]
      rw [List.length_map] at hlen
      obtain ⟨v', w', hrun, own', hgr, hnew⟩ := run_append_new (w := w) base 22 o.type 29 i0 _ 5 88 Try.underlying22 hi hz0 hz1 hz2 rfl (by decide) v R.length (ncells R) hown ⟨b, o', none⟩ M.length c (ncells M) (ncells_length M)
        (fun j u hj => by have h9 := hcl j u hj; rw [add_addr]; exact h9) h1 (by unfold maxLen; omega) (by omega) hbase
      unfold Oper.wp
      simp [execOp, ho, resolve, invoke, builtin, hs, hx', hrun, Result.andThen]
      have hSS : ∀ b, Sub lo w v b → Sub lo w' v' b := by
        intro b hb
        refine ⟨hb.1, Nat.lt_of_lt_of_le hb.2.1 hgr.size, ?_⟩
        rcases hnew with e | e
        · rw [e]; exact hb.2.2
        · intro hg
          have := e b hg
          have := hb.2.1
          omega
      have kp : Kept (Sub lo w v) w w' := Kept.grown hgr fun b hb => ⟨hb.2.1, fun e => hb.2.2 e.symm⟩
      refine hK' _ _ (hK v' w' ⟨R ++ M, by simp, ?_, ?_, ?_, fun g hg hs => hs.2.2 hg⟩ hgr)
      · rw [List.length_append, ncells_append]
        exact own'
      · intro q hq
        rcases List.mem_append.1 hq with hq | hq
        · exact ((hat0 q hq).keep kp).mono hSS
        · exact ((hat q hq).keep kp).mono hSS
      · intro q hq
        rcases List.mem_append.1 hq with hq | hq
        · exact ((hk0 q hq).keep kp).mono hSS
        · exact ((hkids q hq).keep kp).mono hSS

/-- One node of a list, as a list. -/
theorem cut_one (W : World) (b o n c k : Nat) (hk : k < n) (hc : n ≤ c) :
    (Instr.slice 22 (.slice (some ⟨b, o, none⟩) n c) (some (.int .i64 (k : Int))) (some (.int .i64 ((k : Int) + 1))) none).run Try.prog W = .ok (.slice (some ⟨b, o + k * 5, none⟩) 1 (c - k)) W := by
  have he : Try.prog.elem 22 = 29 := by kernel_rfl
  rw [run_slice_lh W 22 (some ⟨b, o, none⟩) n c (by rw [he]; exact Try.underlying22) .i64 .i64 (k : Int) ((k : Int) + 1) (by omega) (by omega) (by omega)]
  rw [he, Try.sizeOf29]
  have e1 : ((k : Int) + 1).toNat = k + 1 := by omega
  simp only [Result.andThen, sliced, Int.toNat_natCast, e1]
  rw [if_neg (by omega), show k + 1 - k = 1 by omega, Option.map_some, add_addr]

theorem Tree.one {S : Nat → Prop} {w : World} {l : List Nd} {b o n c : Nat} (h : Tree S w l (.slice (some ⟨b, o, none⟩) n c)) {k : Nat} {m : Nd} (hm : l[k]? = some m) :
    Tree S w [m] (.slice (some ⟨b, o + k * 5, none⟩) 1 (c - k)) := by
  cases h with
  | mk R l A c hl hc hcell hat hkids =>
    subst hl
    have hk : k < (R.map Rn.n).length := (List.getElem?_eq_some_iff.1 hm).1
    rw [List.getElem?_map] at hm
    cases hr : R[k]? with
    | none => rw [hr] at hm; cases hm
    | some r =>
      rw [hr] at hm
      injection hm with hm
      subst hm
      obtain ⟨b', o', hA, hS, hcl⟩ := hcell (by rw [ncells_length]; rw [List.length_map] at hk; omega)
      injection hA with hA
      injection hA with h1 h2
      subst h1
      subst h2
      have hmem := List.mem_of_getElem? hr
      have ha := ncells_at hr
      refine Tree.mk [r] [r.n] (some ⟨b, o + k * 5, none⟩) (c - k) rfl (by simp; omega) ?_ (fun q hq => by simp at hq; subst hq; exact hat _ hmem) (fun q hq => by simp at hq; subst hq; exact hkids _ hmem)
      intro _
      refine ⟨b, o + k * 5, rfl, hS, fun j u hj => ?_⟩
      rw [show ncells [r] = ncells1 r by simp [ncells]] at hj
      rw [Nat.add_assoc]
      apply hcl
      match j, hj with
      | 0, hj => simp [ncells1] at hj; subst hj; exact ha.1
      | 1, hj => simp [ncells1] at hj; subst hj; exact ha.2.1
      | 2, hj => simp [ncells1] at hj; subst hj; exact ha.2.2.1
      | 3, hj => simp [ncells1] at hj; subst hj; exact ha.2.2.2.1
      | 4, hj => simp [ncells1] at hj; subst hj; exact ha.2.2.2.2
      | j + 5, hj => simp [ncells1] at hj

end Go.Proofs.Ytenjhfkdbmljnaa
