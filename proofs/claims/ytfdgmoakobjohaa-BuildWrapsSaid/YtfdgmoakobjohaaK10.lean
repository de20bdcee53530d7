/- Parts of the proof, in build order: FewR CutT MayM MayR BldC BdV. -/
import Derived.Test.YtfdgmoakobjohaaK09
import Derived.Test.YtfdgmoakobjohaaK04
import Derived.Deep.DeepCutAuto
import Derived.Test.YtfdgmoakobjohaaK06
import Derived.RegionTactic
import Derived.Deep.RegionHeld3
import Derived.Test.YtfdgmoakobjohaaK02
import Derived.Deep.QuietTactic
import Derived.BigQuiet
import Derived.Test.YtfdgmoakobjohaaK08

/- Part FewR. -/
namespace Go.Proofs.Ytfdgmoakobjohaa
open Go.RowKit
set_option linter.unusedVariables false
set_option linter.unusedSimpArgs false

theorem few_one (l : List Nd) (v : Value) (w : World) (hT : Tree (· < w.heap.size) w l v) (hF : Fine l) :
    Calls Try.prog 19 #[v] w fun e w' => ∃ (out : List Nd) (v' : Value), e = .returned v' ∧ OwnC w' w.heap.size w.heap.size out v' ∧ szL out ≤ 16800 ∧ Below w.heap.size w w' ∧ Kp l out ∧ (l.length = 1 → (∀ n ∈ l, n.kids = []) → out.length = 1 ∧ szL out ≤ 420) := by
  go_enter Try.func19, Try.ntmps19
  go_wp2_with fail
  refine (cut_any l (· < w.heap.size) v 40 w hT (fun b hb => hb) hF (by omega)).mono ?_
  rintro e w1 ⟨out, v', m, rfl, hm, hown, hsz, hb, hkp, _, hone, hsum⟩
  go_wp2_with fail
  go_ret
  exact ⟨out, v', rfl, hown, by omega, hb, hkp, fun h hk => by have h1 := hone h (by omega); have h2 := hsum hk; exact ⟨h1, by omega⟩⟩
theorem few_any (l : List Nd) (v : Value) (w : World) (hT : Tree (· < w.heap.size) w l v) (hF : Fine l) :
    Calls Try.prog 19 #[v] w fun e w' => ∃ (out : List Nd) (v' : Value), e = .returned v' ∧ OwnC w' w.heap.size w.heap.size out v' ∧ szL out ≤ 16800 ∧ Below w.heap.size w w' ∧ Kp l out :=
  (few_one l v w hT hF).mono fun _ _ ⟨out, v', h1, h2, h3, h4, h5, _⟩ => ⟨out, v', h1, h2, h3, h4, h5⟩

theorem Kp.snocT {l out : List Nd} {k : Nat} {n : Nd} (h : Kp l out) (hn : l[k]? = some n) (hk : n.kind = 2 ∨ n.kind = 3) (t : ByteArray) : Kp l (out ++ [.mk n.kind ⟨#[]⟩ [] t []]) := by
  have hm := List.mem_of_getElem? hn
  refine ⟨fun hs q hq => ?_, fun hs q hq => ?_⟩
  · rcases List.mem_append.1 hq with hq | hq
    · exact h.1 hs q hq
    · simp at hq
      subst hq
      exact hs n hm
  · have := (hs n hm).1
    omega
theorem Kp.snocE {l out G : List Nd} {k : Nat} {n : Nd} {t : ByteArray} (h : Kp l out) (hn : l[k]? = some n) (hk : ¬ (n.kind = 2 ∨ n.kind = 3)) (ht : namedB n.name.data.toList = true → t = n.name) (h2 : Kp n.kids G) {a : List (ByteArray × ByteArray)} (ha : ∀ y ∈ a, ∃ x ∈ n.attrs, AttN x.1 y.1) :
    Kp l (out ++ [.mk 1 t a ⟨#[]⟩ G]) := by
  have hm := List.mem_of_getElem? hn
  refine ⟨fun hs q hq => ?_, fun hs q hq => ?_⟩
  · exact absurd (.inl (hs n hm)) hk
  · rcases List.mem_append.1 hq with hq | hq
    · exact h.2 hs q hq
    · simp at hq
      subst hq
      obtain ⟨e1, e2, e4, e3⟩ := hs n hm
      rw [e2] at ht
      refine ⟨rfl, ht (by decide +kernel), fun y hy => ?_, h2.1 e3⟩
      obtain ⟨x, hx, e⟩ := ha y hy
      have e5 := e.2
      rw [e4 x hx] at e5
      exact e5 (by decide +kernel)
theorem mergeB_inv (P : Nd → Prop) (hP : ∀ x t, P x → P (.mk x.kind x.name x.attrs t x.kids)) : ∀ (l acc : List Nd), (∀ q ∈ acc, P q) → (∀ q ∈ l, P q) → ∀ q ∈ l.foldl mstep acc, P q
  | [], acc, ha, _ => ha
  | n :: l, acc, ha, hl => by
    refine mergeB_inv P hP l (mstep acc n) ?_ (fun q hq => hl q (List.mem_cons_of_mem _ hq))
    unfold mstep
    split
    · exact ha
    · split
      · rename_i h
        rcases List.eq_nil_or_concat acc with rfl | ⟨m, x, rfl⟩
        · simp [lastText] at h
        · rw [List.concat_eq_append] at ha ⊢
          rw [mglue_snoc]
          intro q hq
          rcases List.mem_append.1 hq with hq | hq
          · exact ha q (List.mem_append_left _ hq)
          · simp at hq
            subst hq
            exact hP _ _ (ha x (by simp))
      · intro q hq
        rcases List.mem_append.1 hq with hq | hq
        · exact ha q hq
        · simp at hq
          subst hq
          exact hl _ (by simp)
theorem Kp.merge {l out : List Nd} (h : Kp l out) : Kp l (mergeB out) := by
  refine ⟨fun hs => ?_, fun hs => ?_⟩
  · exact mergeB_inv (fun q => q.kind = 2) (fun x t hx => hx) out [] (fun q hq => by cases hq) (h.1 hs)
  · exact mergeB_inv (fun m => m.kind = 1 ∧ m.name = ⟨#[98]⟩ ∧ (∀ a ∈ m.attrs, a.1 = ⟨#[105, 100]⟩) ∧ ShK m.kids) (fun x t hx => hx) out [] (fun q hq => by cases hq) (h.2 hs)

structure GdAt (w wr : World) (l : List Nd) (k : Nat) (out : List Nd) (v : Value) : Prop where
  le : k ≤ l.length
  own : OwnC wr w.heap.size w.heap.size out v
  sz : szL out ≤ 4 * szL (l.take k)
  ok : preOK out
  bel : Below w.heap.size w wr
  kp : Kp l out
def GdRel (w : World) (l : List Nd) (y z : Value) (wr : World) : Prop := ∃ (k : Nat) (out : List Nd), z = .int .i64 k ∧ GdAt w wr l k out y

/-- What good tells. -/
def GdEnd (w : World) (l : List Nd) (e : Ending) (w' : World) : Prop :=
  ∃ (G : List Nd) (v : Value), e = .returned v ∧ OwnC w' w.heap.size w.heap.size G v ∧ szL G ≤ 4 * szL l ∧ GoodL G ∧ Below w.heap.size w w' ∧ Kp l G

theorem preOK_snoc {out : List Nd} {n : Nd} (h : preOK out) (hn : nodeOK n) (hk : GoodL n.kids) : preOK (out ++ [n]) := by
  refine ⟨fun x hx => ?_, fun x hx => ?_⟩
  · rcases List.mem_append.1 hx with hx | hx
    · exact h.1 x hx
    · simp at hx; subst hx; exact hn
  · rcases List.mem_append.1 hx with hx | hx
    · exact h.2 x hx
    · simp at hx; subst hx; exact hk

theorem szL_snoc_take {l : List Nd} {k : Nat} {n : Nd} (h : l[k]? = some n) : szL (l.take (k + 1)) = szL (l.take k) + szN n := by
  rw [List.take_add_one, h, szL_append]
  simp [szL_cons, szL_nil]

/-- The text of a node that is none or some: an own list with a node more. -/
theorem kept_store3 {w : World} (a : Addr) (v : Value) (ob : Obj) : Kept (fun b => b ≠ a.block ∧ b < w.heap.size) w ((w.setCell a v).alloc ob) := kept_store a v ob

structure InGAt (W0 wr : World) (B : Nat) (al : List (ByteArray × ByteArray)) (j : Nat) (a : List (ByteArray × ByteArray)) (va : Value) : Prop where
  le : j ≤ al.length
  c2 : wr.cell? ⟨B, 2, none⟩ = some va
  ci : ∀ i, i ≠ 2 → wr.cell? ⟨B, i, none⟩ = W0.cell? ⟨B, i, none⟩
  fr : wr.frozen? ⟨B, 2, none⟩ = false
  fr4 : wr.frozen? ⟨B, 4, none⟩ = false
  own : wr.ownsRow W0.heap.size 39 2 va a.length (acells a)
  ok : attrsOK a
  sz : szA a ≤ 4 * szA (al.take j)
  bel : Below B W0 wr
  hz : W0.heap.size ≤ wr.heap.size
  nm : ∀ y ∈ a, ∃ x ∈ al, AttN x.1 y.1
def InGRel (W0 : World) (B : Nat) (al : List (ByteArray × ByteArray)) (y : Value) (wr : World) : Prop := ∃ (j : Nat) (a : List (ByteArray × ByteArray)) (va : Value), y = .int .i64 j ∧ InGAt W0 wr B al j a va

/-- What the making of an attribute leaves. -/
def RegEnd (W : World) (x : ByteArray × ByteArray) (s7 : Value) (wx : World) : Prop :=
  ∃ (g : Nat) (t u : ByteArray), s7 = .pointer (some ⟨g, 0, none⟩) ∧ W.heap.size ≤ g ∧ wx.cell? ⟨g, 0, none⟩ = some (.string t) ∧ wx.cell? ⟨g, 1, none⟩ = some (.string u) ∧ AttN x.1 t ∧ isB u.data.toList = true ∧
    t.size ≤ x.1.size + 7 ∧ u.size ≤ 4 * x.2.size ∧ Below W.heap.size W wx

theorem sits_now (W : World) (s : ByteArray) (cap : Nat) :
    Sits (W.alloc (.cells (bytesRow s cap) 5 ((bytesRow s cap).size, (bytesRow s cap).size + 1))).drew (W.alloc (.cells (bytesRow s cap) 5 ((bytesRow s cap).size, (bytesRow s cap).size + 1))).drew.heap.size (some ⟨W.heap.size, 0, none⟩) (Lib.byteCells s.data.toList) := by
  simpa using sits_new W s cap

theorem chain1 {W w' w'' : World} {o : Obj} (h1 : Below W.drew.heap.size W.drew w') (h2 : Below (w'.alloc o).drew.heap.size (w'.alloc o).drew w'') : Below W.heap.size W w'' :=
  below_after (below_after (below_after ((Below.refl _ W).drew) h1) (((Below.refl _ w').alloc (Nat.le_refl _) o).drew)) h2
theorem chain2 {W w' w'' : World} {o : Obj} (h1 : Below (W.alloc o).drew.heap.size (W.alloc o).drew w') (h2 : Below w'.heap.size w' w'') : Below W.heap.size W w'' :=
  below_after (below_after (((Below.refl _ W).alloc (Nat.le_refl _) o).drew) h1) h2

theorem cell_keep {W w' : World} {b i : Nat} {v : Value} (hb : Below W.heap.size W w') (h : W.cell? ⟨b, i, none⟩ = some v) : w'.cell? ⟨b, i, none⟩ = some v :=
  (hb.cell (p := ⟨b, i, none⟩) (World.block_lt_of_cell? W ⟨b, i, none⟩ h)).trans h

theorem keep3 {W w' : World} {b1 i1 b2 i2 b3 i3 : Nat} {v1 v2 v3 : Value} (hb : Below W.heap.size W w') (h : W.cell? ⟨b1, i1, none⟩ = some v1 ∧ W.cell? ⟨b2, i2, none⟩ = some v2 ∧ W.cell? ⟨b3, i3, none⟩ = some v3) :
    w'.cell? ⟨b1, i1, none⟩ = some v1 ∧ w'.cell? ⟨b2, i2, none⟩ = some v2 ∧ w'.cell? ⟨b3, i3, none⟩ = some v3 := ⟨cell_keep hb h.1, cell_keep hb h.2.1, cell_keep hb h.2.2⟩

theorem bcell {W w1 : World} (hb : Below W.heap.size W w1) : (∀ b o, b < W.heap.size → w1.cell? ⟨b, o, none⟩ = W.cell? ⟨b, o, none⟩) ∧ (∀ b o, b < W.heap.size → w1.frozen? ⟨b, o, none⟩ = W.frozen? ⟨b, o, none⟩) :=
  ⟨fun b o h => hb.cell (p := ⟨b, o, none⟩) h, fun b o h => hb.frozen (p := ⟨b, o, none⟩) h⟩

end Go.Proofs.Ytfdgmoakobjohaa

/- Part CutT. -/
namespace Go.Proofs.Ytfdgmoakobjohaa
open Go.RowKit
set_option linter.unusedVariables false

/-- One node without kids, where it lies. -/
theorem one_here {S : Nat → Prop} {W : World} {k : Nat} {kd : Int} {nm tx : ByteArray} {al : List (ByteArray × ByteArray)} {va : Value} {t : TypeId} (h : W.heap[k]? = some (.cells #[.int .i64 kd, .string nm, va, .string tx, .slice none 0 0] t (0, 0))) (hS : S k) (ha : AttrsAt S W al va) :
    Tree S W [.mk kd nm al tx []] (.slice (some ⟨k, 0, none⟩) 1 1) :=
  .mk [⟨.mk kd nm al tx [], va, .slice none 0 0⟩] _ _ 1 rfl (Nat.le_refl _) (cells_here h hS _ rfl) (fun r hr => by simp at hr; subst hr; exact ha) (fun r hr => by simp at hr; subst hr; exact Tree.nil _ _)

/-- A new token's cells, behind a draw. -/
theorem new_four_drew (w : World) (t : TypeId) (k : Tk) (va : Value) : ∀ j u, (tcells1 (k, va))[j]? = some u → (w.alloc (.cells #[.int .i64 k.kind, .string k.name, va, .string k.text] t)).drew.cell? ((⟨w.heap.size, 0, none⟩ : Addr).add j) = some u :=
  fun j u h => (new_four w t k va j u h)

/-- One token more, at a step of a region that draws its order. -/
theorem step_append_tok {w : World} {ops : Array Oper} {o : Oper} {a : Act} {K : Act → World → Prop} {Q : Exit → Act → World → Prop} {E : Prop} (hgd : o.guard = none) (s x : Operand)
    (ho : o.op = .call { callee := .builtin .append, args := #[s, x], argTypes := #[22, 22] })
    (lo : Nat) (l : List Tk) (v : Value) (hs : a.eval s = v) (h : OwnK5 w lo l v) (r : Tk × Value) (ad : Addr) (c : Nat) (hx : a.eval x = .slice (some ad) 1 c)
    (hnews : ∀ j u, (tcells1 r)[j]? = some u → w.cell? (ad.add j) = some u) (hat : AttrsAt (Sub lo w v) w r.1.attrs r.2)
    (hlen : l.length ≤ 4000000) (hbase : lo ≤ w.heap.size)
    (hK : ∀ v' w', OwnK5 w' lo (l ++ [r.1]) v' → w.grownBy w' v.ownBlock → K (a.put o.dst v') w') :
    if Region.wanted o (yielded ops a.tmps) = true then Oper.wp Try.prog o a w K Q else E := by
  have hw : Region.wanted o (yielded ops a.tmps) = true := by simp [Region.wanted, hgd]
  rw [if_pos hw]
  exact wp_append_tok s x ho lo l v hs h r ad c hx hnews hat hlen hbase hK

theorem far_tok {wr W w4 : World} {lo : Nat} {l : List Tk} {v : Value} (h : OwnK5 wr lo l v) (hg : W.grownBy w4 v.ownBlock) {p : Addr} (hp : p.block < W.heap.size) (hne : p.block < lo ∨ wr.heap.size ≤ p.block) : w4.cell? p = W.cell? p :=
  World.cell?_of_block (hg.block p.block hp (fun e => by have := h.lt _ e.symm; omega))

/-- What Cut tells. -/
def CutTRet (w : World) (e : Ending) (w' : World) : Prop :=
  ∃ (out : List Tk) (v' : Value), e = .returned v' ∧ OwnK5 w' w.heap.size out v' ∧ out.length ≤ 40 ∧ szKs out ≤ 16800 ∧ (∀ k ∈ out, Kw k) ∧ Below w.heap.size w w'

structure CutTAt (w wr : World) (l : List Tk) (k : Nat) (out : List Tk) (v : Value) : Prop where
  le : k ≤ l.length
  k40 : k ≤ 40
  ln : out.length = k
  sz : szKs out ≤ 420 * k
  kw : ∀ q ∈ out, Kw q
  own : OwnK5 wr w.heap.size out v
  bel : Below w.heap.size w wr
def CutTRel (w : World) (l : List Tk) (x y : Value) (wr : World) : Prop := ∃ (k : Nat) (out : List Tk), y = .int .i64 k ∧ CutTAt w wr l k out x

set_option maxHeartbeats 4000000 in
set_option maxRecDepth 100000 in
theorem cutT_any (l : List Tk) (v : Value) (w : World) (hT : TokAt (· < w.heap.size) w l v) (hl : l.length ≤ maxLen) (hF : ∀ k ∈ l, FineK k) :
    Calls Try.prog 9 #[v] w (CutTRet w) := by
  obtain ⟨A, c, rfl, hc⟩ := hT.shape
  have HT := Lib.hid hT
  have HF := Lib.hid hF
  unfold maxLen at hl
  clear hT hF
  go_enter Try.func9, Try.ntmps9
  go_wp2_with fail
  go_loopw [3, 4] (fun x y wr => CutTRel w l x y wr) (fun _ y _ => l.length - (intOf y).toNat)
  case atStart => exact ⟨0, [], rfl, by omega, by omega, rfl, Nat.le_refl _, (fun _ h => by cases h), OwnK5.nil _ _, Below.refl _ _⟩
  case round =>
    obtain ⟨k, out, rfl, HR⟩ := hrel
    obtain ⟨hk, hk40, hln, hsz, hkw, hown, hbr⟩ := HR
    have HKW := Lib.hid hkw
    have HSZ := Lib.hid hsz
    have HLN := Lib.hid hln
    clear hsz hln hkw
    by_cases hlt : k < l.length ∧ k < 40
    · obtain ⟨hlt, h40⟩ := hlt
      obtain ⟨b, o, c', hv, _, hb, hcell⟩ := HT.out.open_ (by omega)
      injection hv with hA _ hcc
      subst hA
      subst hcc
      obtain ⟨t, ht⟩ : ∃ t, l[k]? = some t := ⟨_, List.getElem?_eq_getElem hlt⟩
      obtain ⟨va, hat⟩ := hcell k t ht
      have hft := HF.out t (List.mem_of_getElem? ht)
      have q0 : wr.cell? ⟨b, o + k * 4, none⟩ = some (.int .i64 t.kind) := (hbr.cell (p := ⟨b, o + k * 4, none⟩) hb).trans hat.c0
      have q1 : wr.cell? ⟨b, o + k * 4 + 1, none⟩ = some (.string t.name) := (hbr.cell (p := ⟨b, o + k * 4 + 1, none⟩) hb).trans hat.c1
      have q2 : wr.cell? ⟨b, o + k * 4 + 2, none⟩ = some va := (hbr.cell (p := ⟨b, o + k * 4 + 2, none⟩) hb).trans hat.c2
      have q3 : wr.cell? ⟨b, o + k * 4 + 3, none⟩ = some (.string t.text) := (hbr.cell (p := ⟨b, o + k * 4 + 3, none⟩) hb).trans hat.c3
      have HFT := Lib.hid hft
      have HAT := Lib.hid hat
      have hwz := hbr.size
      obtain ⟨A2, c2, rfl, _, _⟩ := id HAT.out.at_
      have i1 : (k : Int) < (l.length : Int) := by omega
      have i2 : (k : Int) < 40 := by omega
      have HOWN := Lib.hid hown
      have hbw : b < wr.heap.size := Nat.lt_of_lt_of_le hb hwz
      have hbn : b ≠ wr.heap.size := by omega
      clear hcell ht hat hft hown
      go_wp2_with fail
      have mixed : Try.prog.follows Departure.mixedOrders = true := by kernel_rfl
      go_region
      go_wp2_with fail
      have hFn : Fine [.mk 0 t.name t.attrs t.text []] := .mk _ (by show 1 ≤ maxLen; unfold maxLen; omega) (fun n hn => by simp at hn; subst hn; exact ⟨HFT.out.nm, HFT.out.tx, HFT.out.al, HFT.out.aa⟩) (fun n hn => by simp at hn; subst hn; exact .mk _ (by show 0 ≤ maxLen; unfold maxLen; omega) (fun _ h => by cases h) (fun _ h => by cases h))
      obtain ⟨o1, ho1⟩ : ∃ o1 : Obj, Obj.cells #[.int .i64 0, .string t.name, .slice A2 t.attrs.length c2, .string t.text, .slice none 0 0] 37 = o1 := ⟨_, rfl⟩
      rw [ho1]
      obtain ⟨W1, hW1⟩ : ∃ W1, ((wr.alloc o1).alloc o1).drew = W1 := ⟨_, rfl⟩
      have hb1 : Below wr.heap.size wr W1 := by rw [← hW1]; exact below2 _ _ _
      have hz1 : W1.heap.size = wr.heap.size + 2 := by rw [← hW1]; simp
      have hTn : Tree (· < W1.heap.size) W1 [.mk 0 t.name t.attrs t.text []] (.slice (some ⟨wr.heap.size + 1, 0, none⟩) 1 1) := by
        refine one_here (t := 37) ?_ (by omega) ((HAT.out.at_.keep (Kept.belowB (hbr.trans (hb1.mono hwz)) fun _ h => h)).mono fun x hx => by omega)
        rw [← hW1, ← ho1]
        exact alloc_here' (W := wr.alloc _) (by rw [World.size_alloc])
      have hbw1 : Below w.heap.size w W1 := hbr.trans (hb1.mono hwz)
      rw [hW1]
      clear hW1
      refine (few_one _ _ _ hTn hFn).mono ?_
      rintro e w2 ⟨fo, v2, rfl, hown2, _, hb2, _, hone⟩
      obtain ⟨hfl, hfz⟩ := hone rfl (fun n hn => by simp at hn; subst hn; rfl)
      obtain ⟨f, rfl⟩ : ∃ f, fo = [f] := by
        match fo, hfl with
        | [f], _ => exact ⟨f, rfl⟩
      have hTf := hown2.tree (Nat.le_refl _)
      obtain ⟨g, go, gc, rfl, _, ⟨hg1, hg2⟩, hgc⟩ := hTf.open_ (by simp)
      obtain ⟨fa, fk, hft⟩ := hgc 0 f rfl
      obtain ⟨A5, c5, rfl, _, _⟩ := id hft.at_
      have p0 : w2.cell? ⟨b, o + k * 4, none⟩ = some (.int .i64 t.kind) := (hb2.cell (p := ⟨b, o + k * 4, none⟩) (by show b < W1.heap.size; omega)).trans ((hb1.cell (p := ⟨b, o + k * 4, none⟩) hbw).trans q0)
      have p1 : w2.cell? ⟨g, go + 1, none⟩ = some (.string f.name) := by simpa using hft.c1
      have p2 : w2.cell? ⟨g, go + 2, none⟩ = some (.slice A5 f.attrs.length c5) := by simpa using hft.c2
      have p3 : w2.cell? ⟨g, go + 3, none⟩ = some (.string f.text) := by simpa using hft.c3
      have hbw2 : Below w.heap.size w w2 := hbw1.trans (hb2.mono hbw1.size)
      clear q0 q1 q2 q3
      go_wp2_with fail
      obtain ⟨o3, ho3⟩ : ∃ o3 : Obj, Obj.cells #[.int .i64 t.kind, .string f.name, .slice A5 f.attrs.length c5, .string f.text] 34 = o3 := ⟨_, rfl⟩
      have hb4 : Below w2.heap.size w2 (w2.alloc o3).drew := below1 _ _
      have hbr2 : Below wr.heap.size wr w2 := hb1.trans (hb2.mono hb1.size)
      have hbr4 : Below wr.heap.size wr (w2.alloc o3).drew := hbr2.trans (hb4.mono hbr2.size)
      have hbw4 : Below w.heap.size w (w2.alloc o3).drew := hbr.trans (hbr4.mono hwz)
      have HOW4 := Lib.hid (HOWN.out.later hbr4)
      have HN4 := Lib.hid (new_four_drew w2 34 ⟨t.kind, f.name, f.attrs, f.text⟩ (.slice A5 f.attrs.length c5))
      have hat4 : AttrsAt (Sub w.heap.size (w2.alloc o3).drew u3) (w2.alloc o3).drew f.attrs (.slice A5 f.attrs.length c5) := by
        refine (hft.at_.keep (Kept.below hb4 fun b h => h.2)).mono fun x hx => ⟨by omega, Nat.lt_of_lt_of_le hx.2 hb4.size, fun e => ?_⟩
        have := (HOWN.out.lt _ e).2
        omega
      have HAT4 := Lib.hid hat4
      rw [← ho3] at HOW4 HAT4 hbw4
      have HB4 := Lib.hid hbw4
      have HLO := Lib.hid HOWN.out.lt
      have HFZ := Lib.hid hfz
      have KC := Lib.hid (fun (W : World) (h : Below w2.heap.size w2 W) => (⟨(h.cell (p := ⟨b, o + k * 4, none⟩) (by show b < w2.heap.size; omega)).trans p0, (h.cell (p := ⟨g, go + 1, none⟩) hg2).trans p1, (h.cell (p := ⟨g, go + 2, none⟩) hg2).trans p2, (h.cell (p := ⟨g, go + 3, none⟩) hg2).trans p3⟩ :
        W.cell? ⟨b, o + k * 4, none⟩ = some (.int .i64 t.kind) ∧ W.cell? ⟨g, go + 1, none⟩ = some (.string f.name) ∧ W.cell? ⟨g, go + 2, none⟩ = some (.slice A5 f.attrs.length c5) ∧ W.cell? ⟨g, go + 3, none⟩ = some (.string f.text)))
      have KF := Lib.hid (fun (W w4 : World) (h : Below w2.heap.size w2 W) (h4 : W.grownBy w4 u3.ownBlock) => (⟨(far_tok HOWN.out h4 (p := ⟨b, o + k * 4, none⟩) (by have := h.size; show b < W.heap.size; omega) (.inl hb)).trans (KC.out W h).1, (far_tok HOWN.out h4 (p := ⟨g, go + 1, none⟩) (Nat.lt_of_lt_of_le hg2 h.size) (.inr (by show wr.heap.size ≤ g; omega))).trans (KC.out W h).2.1, (far_tok HOWN.out h4 (p := ⟨g, go + 2, none⟩) (Nat.lt_of_lt_of_le hg2 h.size) (.inr (by show wr.heap.size ≤ g; omega))).trans (KC.out W h).2.2.1, (far_tok HOWN.out h4 (p := ⟨g, go + 3, none⟩) (Nat.lt_of_lt_of_le hg2 h.size) (.inr (by show wr.heap.size ≤ g; omega))).trans (KC.out W h).2.2.2⟩ :
        w4.cell? ⟨b, o + k * 4, none⟩ = some (.int .i64 t.kind) ∧ w4.cell? ⟨g, go + 1, none⟩ = some (.string f.name) ∧ w4.cell? ⟨g, go + 2, none⟩ = some (.slice A5 f.attrs.length c5) ∧ w4.cell? ⟨g, go + 3, none⟩ = some (.string f.text)))
      clear hbw4 hat4 hbr4 hbr2 hb4 hb2 hb1 hbw2 hbw1 hft hgc hTf hown2 hone hfl hfz hTn hFn ho1 ho3
      go_region_held3 (fun W => W.cell? ⟨b, o + k * 4, none⟩ = some (.int .i64 t.kind) ∧ W.cell? ⟨g, go + 1, none⟩ = some (.string f.name) ∧ W.cell? ⟨g, go + 2, none⟩ = some (.slice A5 f.attrs.length c5) ∧ W.cell? ⟨g, go + 3, none⟩ = some (.string f.text))
        (first | exact KC.out _ (Below.refl _ _) | exact KC.out _ (Below.refl _ _).drew | exact KC.out _ (below1 _ _) | exact KF.out _ _ (below1 _ _) hg5)
        (first
          | (refine step_append_tok rfl _ _ rfl w.heap.size _ _ rfl HOW4.out (⟨t.kind, f.name, f.attrs, f.text⟩, .slice A5 f.attrs.length c5) ⟨w2.heap.size, 0, none⟩ 1 rfl HN4.out HAT4.out (by rw [HLN.out]; omega) HB4.out.size ?_; intro v' w5 hown5 hg5))
      have hb5 := HB4.out.grown hg5 HB4.out.size (fun g hg => (HLO.out g hg).1)
      have HOWN5 := Lib.hid hown5
      clear hown5 hg5
      go_wp2_with fail
      go_roundw
      case rel =>
        refine ⟨k + 1, out ++ [⟨t.kind, f.name, f.attrs, f.text⟩], by go_num, by omega, by omega, by rw [List.length_append, HLN.out]; rfl, ?_, (fun q hq => ?_), HOWN5.out, hb5⟩
        rotate_left
        · rcases List.mem_append.1 hq with hq | hq
          · exact HKW.out q hq
          · simp at hq
            subst hq
            exact HFT.out.kd
        have h1 := HFZ.out
        have h2 := HSZ.out
        rw [szL_cons, szL_nil, szN_eq] at h1
        rw [szKs_append]
        simp only [szKs, szK]
        omega
      case measure => simp [intOf]; omega
    · have hke : k = l.length ∨ k = 40 := by omega
      have HE := Lib.hid (show CutTRet w (.returned u3) wr from ⟨out, u3, rfl, hown, by rw [HLN.out]; exact hk40, by have := HSZ.out; omega, HKW.out, hbr⟩)
      clear hown
      by_cases h1 : k < l.length
      · have i1 : (k : Int) < (l.length : Int) := by omega
        have i2 : ¬ ((k : Int) < 40) := by omega
        go_wp2_with fail
        go_ret
        exact HE.out
      · have i1 : ¬ ((k : Int) < (l.length : Int)) := by omega
        go_wp2_with fail
        go_ret
        exact HE.out

end Go.Proofs.Ytfdgmoakobjohaa

/- Part MayM. -/
namespace Go.Proofs.Ytfdgmoakobjohaa
set_option linter.unusedVariables false

/-- The first error of attributes' names; those ahead of them are given. -/
def nameE (done : List ByteArray) : List (ByteArray × ByteArray) → Int
  | [] => 0
  | a :: l => if attrB a.1.data.toList = true then (if done.any (fun x => decide (x = a.1)) = true then 5 else nameE (done ++ [a.1]) l) else 4
/-- .. of their values. -/
def valE (l : List (ByteArray × ByteArray)) : Int := if l.all (fun a => isB a.2.data.toList) = true then 0 else 2
/-- An element's own first error. -/
def elemE (n : Nd) : Int :=
  if n.text.data.toList = [] then (if namedB n.name.data.toList = true then (if nameE [] n.attrs = 0 then valE n.attrs else nameE [] n.attrs) else 4) else 7
/-- A node's own first error; b: does a text stand ahead? -/
def nodeE (b : Bool) (n : Nd) : Int :=
  if n.kind = 1 then elemE n
  else if n.kind = 2 ∨ n.kind = 3 then
    (if n.name.data.toList = [] ∧ n.attrs = [] ∧ n.kids = [] then (if isB n.text.data.toList = true ∧ ¬ (n.kind = 2 ∧ (n.text.data.toList = [] ∨ b = true)) then 0 else 2) else 7)
  else 7
mutual
def mayN (b : Bool) : Nd → Int
  | .mk k n a t ks => if nodeE b (.mk k n a t ks) = 0 then mayL false ks else nodeE b (.mk k n a t ks)
/-- The first error of nodes. -/
def mayL (b : Bool) : List Nd → Int
  | [] => 0
  | n :: l => if mayN b n = 0 then mayL (n.kind == 2) l else mayN b n
end
theorem mayN_eq (b : Bool) (n : Nd) : mayN b n = if nodeE b n = 0 then mayL false n.kids else nodeE b n := by cases n; simp [mayN, Nd.kids]
theorem mayL_nil (b : Bool) : mayL b [] = 0 := by simp [mayL]
theorem mayL_cons (b : Bool) (n : Nd) (l : List Nd) : mayL b (n :: l) = if mayN b n = 0 then mayL (n.kind == 2) l else mayN b n := by simp [mayL]

theorem nameE_ok : ∀ (l : List (ByteArray × ByteArray)) (done : List ByteArray), (∀ a ∈ l, attrB a.1.data.toList = true) → l.Pairwise (fun a b => a.1 ≠ b.1) → (∀ a ∈ l, ∀ x ∈ done, x ≠ a.1) → nameE done l = 0
  | [], _, _, _, _ => rfl
  | a :: l, done, h1, h2, h3 => by
    unfold nameE
    rw [if_pos (h1 a (by simp)), if_neg ?_]
    · rw [List.pairwise_cons] at h2
      refine nameE_ok l _ (fun x hx => h1 x (by simp [hx])) h2.2 ?_
      intro x hx y hy
      rcases List.mem_append.1 hy with hy | hy
      · exact h3 x (by simp [hx]) y hy
      · simp at hy
        subst hy
        exact h2.1 x hx
    · intro h
      rw [List.any_eq_true] at h
      obtain ⟨x, hx, e⟩ := h
      exact h3 a (by simp) x hx (by simpa using e)

theorem nodeE_ok {n : Nd} {b : Bool} (h : nodeOK n) (ht : n.kind = 2 → n.text.data.toList ≠ [] ∧ b = false) : nodeE b n = 0 := by
  unfold nodeE
  rcases h with ⟨h1, h2, h3, h4⟩ | ⟨h1, h2, h3, h4, h5⟩
  · rw [if_pos h1]
    unfold elemE
    rw [if_pos h3, if_pos h2, if_pos (nameE_ok _ _ (fun a ha => (h4.1 a ha).1) h4.2 (by simp))]
    unfold valE
    rw [if_pos (by rw [List.all_eq_true]; exact fun a ha => (h4.1 a ha).2)]
  · have hno : ¬ (n.kind = 2 ∧ (n.text.data.toList = [] ∨ b = true)) := by
      intro hk
      have := ht hk.1
      rcases hk.2 with e | e
      · exact this.1 e
      · rw [this.2] at e
        cases e
    rw [if_neg (by omega), if_pos h1, if_pos ⟨h2, h3, h4⟩, if_pos ⟨h5, hno⟩]

/-- Nodes that may be have no error. -/
theorem good_may {l : List Nd} (h : GoodL l) : mayL false l = 0 := by
  induction h with
  | mk l hn hs hk ih =>
    have key : ∀ (l : List Nd) (b : Bool), (∀ n ∈ l, nodeOK n) → sides b l → (∀ n ∈ l, mayL false n.kids = 0) → mayL b l = 0 := by
      intro l
      induction l with
      | nil => intro b _ _ _; exact mayL_nil b
      | cons n l ihl =>
        intro b h1 h2 h3
        simp only [sides] at h2
        have e : mayN b n = 0 := by rw [mayN_eq, if_pos (nodeE_ok (h1 n (by simp)) h2.1), h3 n (by simp)]
        rw [mayL_cons, if_pos e]
        exact ihl _ (fun x hx => h1 x (by simp [hx])) h2.2 (fun x hx => h3 x (by simp [hx]))
    exact key l false hn hs ih

end Go.Proofs.Ytfdgmoakobjohaa

/- Part MayR. -/
namespace Go.Proofs.Ytfdgmoakobjohaa
open Go.RowKit
set_option linter.unusedVariables false

theorem valE_false {l : List (ByteArray × ByteArray)} {k : Nat} {a : ByteArray × ByteArray} (h : l[k]? = some a) (hb : isB a.2.data.toList = false) : valE l = 2 := by
  unfold valE
  rw [if_neg]
  intro e
  rw [List.all_eq_true] at e
  have := e a (List.mem_of_getElem? h)
  rw [hb] at this
  cases this

/-- After k names: the names so far have no error. -/
theorem nameE_skip : ∀ (l : List (ByteArray × ByteArray)) (k : Nat) (done : List ByteArray), nameE done l = nameE done (l.take k) ∨ nameE done (l.take k) = 0 := by
  intro l
  induction l with
  | nil => intro k done; left; simp
  | cons a l ih =>
    intro k done
    cases k with
    | zero => right; rfl
    | succ k =>
      rw [List.take_succ_cons]
      unfold nameE
      by_cases h : attrB a.1.data.toList = true
      · rw [if_pos h, if_pos h]
        by_cases h2 : done.any (fun x => decide (x = a.1)) = true
        · rw [if_pos h2, if_pos h2]; exact .inl rfl
        · rw [if_neg h2, if_neg h2]
          exact ih k _
      · rw [if_neg h, if_neg h]; exact .inl rfl
theorem nameE_at {l : List (ByteArray × ByteArray)} {k : Nat} {a : ByteArray × ByteArray} (hk : l[k]? = some a) : ∀ (done : List ByteArray), nameE done (l.take k) = 0 →
    nameE done l = nameE (done ++ (l.take k).map (·.1)) (l.drop k) ∧ nameE done (l.take (k + 1)) = nameE (done ++ (l.take k).map (·.1)) [a] := by
  induction l generalizing k with
  | nil => simp at hk
  | cons b l ih =>
    intro done h
    cases k with
    | zero => simp at hk; subst hk; simp
    | succ k =>
      rw [List.take_succ_cons] at h
      simp only [List.take_succ_cons, List.map_cons, List.drop_succ_cons]
      unfold nameE at h
      by_cases h1 : attrB b.1.data.toList = true
      · rw [if_pos h1] at h
        by_cases h2 : done.any (fun x => decide (x = b.1)) = true
        · rw [if_pos h2] at h; omega
        · rw [if_neg h2] at h
          have := ih (k := k) (by simpa using hk) (done ++ [b.1]) h
          rw [List.append_assoc] at this
          refine ⟨?_, ?_⟩
          · conv => lhs; unfold nameE
            rw [if_pos h1, if_neg h2]
            exact this.1
          · conv => lhs; unfold nameE
            rw [if_pos h1, if_neg h2]
            exact this.2
      · rw [if_neg h1] at h; omega

theorem nameE_one (done : List ByteArray) (a : ByteArray × ByteArray) (l : List (ByteArray × ByteArray)) : nameE done (a :: l) = if attrB a.1.data.toList = true then (if done.any (fun x => decide (x = a.1)) = true then 5 else nameE (done ++ [a.1]) l) else 4 := by
  conv => lhs; unfold nameE

structure ElAt (w1 wr : World) (l : List (ByteArray × ByteArray)) (k : Nat) : Prop where
  le : k ≤ l.length
  is : nameE [] (l.take k) = 0
  bel : Below w1.heap.size w1 wr
def ElRel (w1 : World) (l : List (ByteArray × ByteArray)) (y : Value) (wr : World) : Prop := ∃ k : Nat, y = .int .i64 k ∧ ElAt w1 wr l k
structure ElIn (w1 wr : World) (l : List (ByteArray × ByteArray)) (k j : Nat) (x : ByteArray) : Prop where
  le : j ≤ k
  is : ∀ b ∈ l.take j, b.1 ≠ x
  bel : Below w1.heap.size w1 wr
def ElInRel (w1 : World) (l : List (ByteArray × ByteArray)) (k : Nat) (x : ByteArray) (y : Value) (wr : World) : Prop := ∃ j : Nat, y = .int .i64 j ∧ ElIn w1 wr l k j x
structure ElVal (w1 wr : World) (l : List (ByteArray × ByteArray)) (k : Nat) : Prop where
  le : k ≤ l.length
  is : ∀ b ∈ l.take k, isB b.2.data.toList = true
  bel : Below w1.heap.size w1 wr
def ElValRel (w1 : World) (l : List (ByteArray × ByteArray)) (y : Value) (wr : World) : Prop := ∃ k : Nat, y = .int .i64 k ∧ ElVal w1 wr l k

theorem below_dN {B : Nat} {a w : World} (h : Below B a w) (n : Nat) : Below B a (w.drewN n) := h.trans ⟨rfl, rfl, rfl, Nat.le_refl _, fun _ _ => rfl⟩

end Go.Proofs.Ytfdgmoakobjohaa

/- Part BldC. -/
namespace Go.Proofs.Ytfdgmoakobjohaa
open Go.RowKit
set_option linter.unusedVariables false

/-- Tree tells the document's tree. -/
def TreesSaid : Prop := ∀ (l : List Tk) (v : Value) (w : World), Glob w → TokAt (· < w.heap.size) w l v → (∀ k ∈ l, Kw k) → szKs l ≤ 40000 →
  Calls Try.prog 8 #[v] w fun e w' => ∃ v', e = .returned v' ∧ Tree (· < w'.heap.size) w' (treeB l) v' ∧ Below w.heap.size w w'

/-- A token, as a value. -/
def tokV (k : Tk) (va : Value) : Value := .agg #[.int .i64 k.kind, .string k.name, va, .string k.text]
/-- The builder of which tokens were built. -/
def bldB (ts : List Tk) : Bst := ts.foldl putB ⟨[], []⟩
def opensB (ts : List Tk) : List ByteArray := (bldB ts).fs.reverse.map Fr.name

/-- The attributes of a list's nodes may be written. -/
def Thaw (w : World) (l : List Nd) (v : Value) : Prop := ∀ g k b o n c, k < l.length → v.ownBlock = some g → w.cell? ⟨g, k * 5 + 2, none⟩ = some (.slice (some ⟨b, o, none⟩) n c) → ∀ j, j < n * 2 → w.frozen? ⟨b, o + j, none⟩ = false

/-- A builder, as the document has it: Inv lo ts v W says that v is one of which the tokens ts were built, and that what it has lies at block lo and beyond. -/
structure BldSaid (Inv : Nat → List Tk → Value → World → Prop) : Prop where
  new : ∀ w, Glob w → Calls Try.prog 11 #[] w fun e w' => ∃ a, e = .returned (.pointer (some a)) ∧ Inv w.heap.size [] (.pointer (some a)) w' ∧ Below w.heap.size w w'
  put : ∀ lo ts v w k va, lo ≤ w.heap.size → Glob w → Inv lo ts v w → AttrsAt (· < w.heap.size) w k.attrs va → Kw k → szKs (ts ++ [k]) ≤ 40000 →
    Calls Try.prog 12 #[v, tokV k va] w fun e w' => (∃ x, e = .returned x) ∧ Inv lo (ts ++ [k]) v w' ∧ Below lo w w'
  nodes : ∀ lo ts v w, lo ≤ w.heap.size → Glob w → Inv lo ts v w → szKs ts ≤ 40000 →
    Calls Try.prog 13 #[v] w fun e w' => ∃ v', e = .returned v' ∧ OwnC w' w.heap.size w.heap.size (nodesB (bldB ts)) v' ∧ Thaw w' (nodesB (bldB ts)) v' ∧ (∀ w'', Below w.heap.size w' w'' → Inv lo ts v w'') ∧ Below lo w w'
  open_ : ∀ lo ts v w, lo ≤ w.heap.size → Glob w → Inv lo ts v w → szKs ts ≤ 40000 →
    Calls Try.prog 20 #[v] w fun e w' => ∃ A c, e = .returned (.slice A (opensB ts).length c) ∧ (opensB ts).length ≤ c ∧ Cells (· < w'.heap.size) w' A ((opensB ts).map Value.string) ∧ Inv lo ts v w' ∧ Below w.heap.size w w'

def l7T : List Tk := [⟨1, tB [112], [], ⟨#[]⟩⟩, ⟨3, ⟨#[]⟩, [], tB [120]⟩, ⟨1, tB [100, 105, 118], [], ⟨#[]⟩⟩]
def l7N : List Nd := [.mk 1 (tB [112]) [] (tB []) [.mk 2 (tB []) [] (tB [120]) []], .mk 1 (tB [100, 105, 118]) [] (tB []) []]
theorem l7_nodes : nodesB (bldB l7T) = l7N := by kernel_rfl
theorem l7_open : opensB l7T = [tB [100, 105, 118]] := by kernel_rfl

set_option maxHeartbeats 4000000 in
set_option maxRecDepth 100000 in
theorem lives7_any {Inv : Nat → List Tk → Value → World → Prop} (HB : BldSaid Inv) (w : World) (HG : Glob w) : Calls Try.prog 10 #[] w fun e w' => e = .returned (.bool true) ∧ Below w.heap.size w w' := by
  go_enter Try.func10, Try.ntmps10
  go_wp2_with fail
  refine (HB.new _ HG).mono ?_
  rintro e w1 ⟨a, rfl, hi1, hb1⟩
  go_wp2_with fail
  refine (HB.put w.heap.size _ _ _ ⟨1, tB [112], [], ⟨#[]⟩⟩ (.slice none 0 0) hb1.size (HG.below hb1) hi1 (AttrsAt.nil _ _) (by unfold Kw; decide) (by decide)).mono ?_
  rintro e w2 ⟨⟨x2, rfl⟩, hi2, hb2⟩
  have hc2 := hb1.trans hb2
  go_wp2_with fail
  refine (HB.put w.heap.size _ _ _ ⟨3, ⟨#[]⟩, [], tB [120]⟩ (.slice none 0 0) hc2.size (HG.below hc2) hi2 (AttrsAt.nil _ _) (by unfold Kw; decide) (by decide)).mono ?_
  rintro e w3 ⟨⟨x3, rfl⟩, hi3, hb3⟩
  have hc3 := hc2.trans hb3
  go_wp2_with fail
  refine (HB.put w.heap.size _ _ _ ⟨1, tB [100, 105, 118], [], ⟨#[]⟩⟩ (.slice none 0 0) hc3.size (HG.below hc3) hi3 (AttrsAt.nil _ _) (by unfold Kw; decide) (by decide)).mono ?_
  rintro e w4 ⟨⟨x4, rfl⟩, hi4, hb4⟩
  have hc4 := hc3.trans hb4
  have hi4' : Inv w.heap.size l7T (.pointer (some a)) w4 := hi4
  clear hi1 hi2 hi3 hi4
  go_wp2_with fail
  refine (HB.nodes w.heap.size l7T _ _ hc4.size (HG.below hc4) hi4' (by decide)).mono ?_
  rintro e w5 ⟨v5, rfl, ho5, _, hi5, hb5⟩
  have hi5 := hi5 w5 (Below.refl _ _)
  have hc5 := hc4.trans hb5
  go_wp2_with fail
  refine (HB.open_ w.heap.size l7T _ _ hc5.size (HG.below hc5) hi5 (by decide)).mono ?_
  rintro e w6 ⟨A6, c6, rfl, hl6, hs6, _, hb6⟩
  have hc6 := below_after hc5 hb6
  rw [l7_nodes] at ho5
  rw [l7_open] at hl6 hs6 ⊢
  obtain ⟨b, o, c5, rfl, hl5, ⟨hb1', hb2'⟩, hcell⟩ := (OwnC.tree ho5 (Nat.le_refl _)).open_ (by decide)
  obtain ⟨va0, vk0, h0⟩ := hcell 0 _ rfl
  obtain ⟨va1, vk1, h1⟩ := hcell 1 _ rfl
  obtain ⟨A4, c4, rfl, _⟩ := h0.kids.shape
  obtain ⟨b6, o6, rfl, hs6', hc6'⟩ := hs6 (by decide)
  have g1 : w6.cell? ⟨b, o + 1, none⟩ = some (.string ⟨#[112]⟩) := (hb6.cell (p := ⟨b, o + 1, none⟩) hb2').trans h0.c1
  have g4 : w6.cell? ⟨b, o + 4, none⟩ = some (.slice A4 1 c4) := (hb6.cell (p := ⟨b, o + 4, none⟩) hb2').trans h0.c4
  have g6 : w6.cell? ⟨b, o + 5 + 1, none⟩ = some (.string ⟨#[100, 105, 118]⟩) := (hb6.cell (p := ⟨b, o + 5 + 1, none⟩) hb2').trans h1.c1
  have k0 : w6.cell? ⟨b6, o6, none⟩ = some (.string ⟨#[100, 105, 118]⟩) := hc6' 0 _ rfl
  clear hcell h0 h1 ho5 hs6 hc6' hi5 hi4'
  go_wp2_with fail
  go_ret
  exact ⟨rfl, hc6⟩

end Go.Proofs.Ytfdgmoakobjohaa

/- Part BdV. -/
namespace Go.Proofs.Ytfdgmoakobjohaa
open Go.RowKit
set_option linter.unusedVariables false

def knew (w w' : World) : Nat → Prop := fun k => noB k ∨ newB w w' k
theorem knew_lo {w w' : World} {lo : Nat} (hlo : lo ≤ w.heap.size) : ∀ k, knew w w' k → lo ≤ k ∧ k < w'.heap.size := by
  rintro k (hk | hk)
  · exact hk.elim
  · exact ⟨Nat.le_trans hlo hk.1, hk.2⟩

/-- What a deed does: the builder is b' then. -/
def Did (lo a : Nat) (b' : Bst) (N : Nat) (w : World) (e : Ending) (w' : World) : Prop := (∃ x, e = .returned x) ∧ IsAtB lo a b' N w' ∧ Below lo w w'

/-- A comment that has just been made. -/
theorem rem_one {K : Nat → Prop} {w : World} {g : Nat} {t : ByteArray} (hg : K g) (h : w.heap[g]? = some (.cells #[.int .i64 4, .string ⟨#[]⟩, .slice none 0 0, .string t, .pointer none, .slice none 0 0, .slice none 0 0] 54 (0, 0))) :
    POne K (inQ K) w ⟨remN t, g, .slice none 0 0, .slice none 0 0, t, .slice none 0 0, []⟩ :=
  ⟨hg, ⟨cell_at h 0, cell_at h 1, cell_at h 2, cell_at h 3, cell_at h 5, cell_at h 6⟩, .comm rfl rfl rfl rfl rfl, AttrsAt.nil _ _, PTree.nil _ _ _⟩
/-- A text that has just been made. -/
def newTl (g : Nat) (t : ByteArray) : Tl := ⟨g, t, .pointer none, .slice none 0 0, []⟩
theorem newTl_at {lo : Nat} {w : World} {g : Nat} {t : ByteArray} (h : w.heap[g]? = some (.cells #[.int .i64 3, .string ⟨#[]⟩, .slice none 0 0, .string t, .pointer none, .slice none 0 0, .slice none 0 0] 54 (0, 0))) : TlAt lo w (newTl g t) :=
  ⟨h, .inl rfl, ⟨rfl, .inl ⟨rfl, rfl⟩⟩, fun _ => rfl⟩
theorem newTl_n (g : Nat) (t : ByteArray) : (newTl g t).rp.n = textN t := by
  show Nd.mk 2 ⟨#[]⟩ [] (t ++ ⟨([] : List UInt8).toArray⟩) [] = .mk 2 (tB []) [] t []
  congr 1
  apply ByteArray.ext
  simp

set_option maxHeartbeats 1000000 in
set_option maxRecDepth 100000 in
theorem remark_anyB {lo a : Nat} {b : Bst} {N : Nat} {w : World} (h : IsAtB lo a b N w) (nm tx : ByteArray) (A : Option Addr) (n c : Nat) (hz : szB b ≤ 100000) (hlo : lo ≤ w.heap.size) :
    Calls Try.prog 28 #[.pointer (some ⟨a, 0, none⟩), .agg #[.int .i64 4, .string nm, .slice A n c, .string tx]] w (Did lo a (addTo b (remN tx)) N w) := by
  obtain ⟨w2, hw2⟩ : ∃ w2, (w.alloc (.cells #[.int .i64 4, .string nm, .slice A n c, .string tx] 34)).alloc (.cells #[.int .i64 4, .string ⟨#[]⟩, .slice none 0 0, .string tx, .pointer none, .slice none 0 0, .slice none 0 0] 54) = w2 := ⟨_, rfl⟩
  have hb2 : Below w.heap.size w w2 := by rw [← hw2]; exact ((Below.refl _ w).alloc (Nat.le_refl _) _).alloc (by simp) _
  have hs2 : w2.heap.size = w.heap.size + 2 := by rw [← hw2]; simp
  have hg : w2.heap[w.heap.size + 1]? = some (.cells #[.int .i64 4, .string ⟨#[]⟩, .slice none 0 0, .string tx, .pointer none, .slice none 0 0, .slice none 0 0] 54 (0, 0)) := by
    rw [← hw2]
    exact alloc_here' (by rw [World.size_alloc])
  have hK : knew w w2 (w.heap.size + 1) := .inr ⟨by omega, by omega⟩
  have HADD := Lib.hid (addG_any (K := knew w w2) (h.more hb2) (w.heap.size + 1) hz (by omega) (fun k hk => (knew_lo hlo k hk).2))
  have HR := Lib.hid (rem_one (K := knew w w2) hK hg)
  have HL := Lib.hid (And.intro (knew_lo (w' := w2) hlo) (hb2.mono hlo))
  clear hb2 hs2 hg hK h
  go_enter Try.func28, Try.ntmps28
  go_wp2_with fail
  refine HADD.out.mono ?_
  rintro e w3 ⟨⟨x, rfl⟩, hp, hb3⟩
  have HE := Lib.hid (show IsAtB lo a (addTo b (remN tx)) N w3 from PlusAt.closed ⟨remN tx, w.heap.size + 1, .slice none 0 0, .slice none 0 0, tx, .slice none 0 0, []⟩ hp HL.out.1 HR.out (show (3 : Int) ≠ 2 by decide))
  have HB := Lib.hid (HL.out.2.trans hb3)
  clear hp hb3 hw2
  go_wp2_with fail
  go_end0
  exact ⟨⟨_, rfl⟩, HE.out, HB.out⟩

/-! ### chars -/
theorem add_empty (b : Bst) (tx : ByteArray) (h : tx.data.toList = []) : addTo b (textN tx) = b := by
  rw [addTo_eq]
  unfold mstep
  rw [if_pos ⟨rfl, h⟩, setIn_inner]
/-- A text that has grown. -/
def Tl.grown (t : Tl) (bv : Value) (tx : ByteArray) : Tl := ⟨t.g, t.pre, .pointer (some ⟨t.g, 4, none⟩), bv, t.mo ++ tx.data.toList⟩
theorem grown_n (t : Tl) (bv : Value) (tx : ByteArray) : (t.grown bv tx).rp.n = .mk t.rp.n.kind t.rp.n.name t.rp.n.attrs (t.rp.n.text ++ tx) t.rp.n.kids := by
  show Nd.mk 2 ⟨#[]⟩ [] (t.pre ++ ⟨(t.mo ++ tx.data.toList).toArray⟩) [] = .mk 2 ⟨#[]⟩ [] ((t.pre ++ ⟨t.mo.toArray⟩) ++ tx) []
  congr 1
  apply ByteArray.ext
  apply Array.toList_inj.1
  simp
theorem grown_bst (s : Stt) (t : Tl) (bv : Value) (tx : ByteArray) (ht : s.tl = some t) (hne : tx.data.toList ≠ []) : ({ s with tl := some (t.grown bv tx) } : Stt).bst [] = addTo (s.bst []) (textN tx) := by
  have hi := inner_top s []
  have htn : s.tn = [t.rp.n] := by unfold Stt.tn; rw [ht]
  rw [htn] at hi
  rw [addTo_eq, hi]
  have hm : mstep (s.topR.map Rp.n ++ ([t.rp.n] ++ [])) (textN tx) = s.topR.map Rp.n ++ [(t.grown bv tx).rp.n] := by
    rw [List.append_nil]
    unfold mstep
    rw [if_neg fun h => hne h.2, if_pos ⟨rfl, by rw [lastText_snoc]; rfl⟩, mglue_snoc, grown_n]
    rfl
  rw [hm]
  obtain ⟨a, M, n, ov, vk0, R0, fs, tl⟩ := s
  cases fs with
  | nil => simp [Stt.bst, Stt.topR, Stt.tn, bstOf, setIn]
  | cons f fs => simp [Stt.bst, Stt.topR, Stt.tn, bstOf, setIn, frOf]
theorem StAt.wrote {lo : Nat} {P Q : Nat → Prop} {s : Stt} {gs : List Nat} {w w' : World} {t : Tl} {tx : ByteArray} (h : StAt lo P Q s gs w) (ht : s.tl = some t)
    (hw : Wrote lo t.g (.int .i64 3) (.string ⟨#[]⟩) (.slice none 0 0) (.string t.pre) t.bv (.slice none 0 0) (Lib.byteCells t.mo) tx w w') (hne : tx.data.toList ≠ []) : ∃ bv, StAt lo P Q { s with tl := some (t.grown bv tx) } gs w' := by
  obtain ⟨bv', hb1, ho1, hn1⟩ := hw.blk
  have htl := h.tl t ht
  have hbl : (Lib.byteCells t.mo).length + tx.size = (t.mo ++ tx.data.toList).length := by
    rw [Lib.byteCells_length, List.length_append, str_list]
  have hbc : Lib.byteCells t.mo ++ Lib.strCells tx = Lib.byteCells (t.mo ++ tx.data.toList) := by
    unfold Lib.byteCells
    rw [List.map_append]
    rfl
  have hX : ∀ b, ({ s with tl := some (t.grown bv' tx) } : Stt).X b → s.X b ∨ (bv'.ownBlock = some b ∧ w.heap.size ≤ b) := by
    rintro b (hb | hb | hb | ⟨t', e, hb⟩)
    · exact .inl (.inl hb)
    · exact .inl (.inr (.inl hb))
    · exact .inl (.inr (.inr (.inl hb)))
    · injection e with e
      subst e
      rcases hb with hb | hb
      · exact .inl (.inr (.inr (.inr ⟨t, ht, .inl hb⟩)))
      · rcases hn1 with e | e
        · exact .inl (.inr (.inr (.inr ⟨t, ht, .inr (e ▸ hb)⟩)))
        · exact .inr ⟨hb, e b hb⟩
  have hk : ∀ b, b < w.heap.size → b ≠ t.g → t.bv.ownBlock ≠ some b → w'.heap[b]? = w.heap[b]? := hw.kept
  have hPQ : ∀ b, P b ∨ Q b → w'.heap[b]? = w.heap[b]? := fun b hb => by
    have hlt := (h.lo b (hb.imp id .inl)).2
    refine hk b hlt (fun e => ?_) fun e => ?_
    · have hx : s.X b := .inr (.inr (.inr ⟨t, ht, .inl e⟩))
      rcases hb with hb | hb
      · exact h.px b hb hx
      · exact h.qx b hb hx
    · have hx : s.X b := .inr (.inr (.inr ⟨t, ht, .inr e⟩))
      rcases hb with hb | hb
      · exact h.px b hb hx
      · exact h.qx b hb hx
  have hoth : ∀ (b : Nat) (o : Obj), w.heap[b]? = some o → (∀ cs fz, o ≠ Obj.cells cs 54 fz) → (∀ cs fz, o ≠ Obj.cells cs 5 fz) → w'.heap[b]? = some o := fun b o hb h1 h2 => by
    refine (hk b (Array.getElem?_eq_some_iff.1 hb).1 (ne_of_heap hb htl.blk (h1 _ _)) fun e => ?_).trans hb
    obtain ⟨cur, fz, hh⟩ := htl.buf e
    exact ne_of_heap hb hh (h2 _ _) rfl
  refine ⟨bv', ⟨hoth _ _ h.blk (fun _ _ => cells_ne (by decide)) (fun _ _ => cells_ne (by decide)), ?_, ?_, ?_, fun t' e => ?_, h.pq, fun b hb hx => ?_, fun b hb hx => ?_, fun b hb => ?_⟩⟩
  · refine ownsRow_same h.opn (by decide) fun b hb => .inl ?_
    obtain ⟨cur, hh⟩ := h.ovT hb
    exact (hoth b _ hh (fun _ _ => cells_ne (by decide)) (fun _ _ => cells_ne (by decide))).trans hh.symm
  · obtain ⟨es, ck, hh⟩ := h.cnt.heap
    exact h.cnt.kept ((hoth _ _ hh (fun _ _ e => by cases e) (fun _ _ e => by cases e)).trans hh.symm)
  · have hf := h.frs.keep (fun b hb => .inl (hPQ b (.inr hb))) fun b hb => .inl (hPQ b (.inl hb))
    have e1 : s.tg = [t.g] := by unfold Stt.tg; rw [ht]
    rw [e1] at hf
    exact hf
  · injection e with e
    subst e
    refine ⟨hb1, .inr rfl, ?_, fun e => ?_⟩
    · show w'.ownsRowF lo 5 1 bv' (t.mo ++ tx.data.toList).length (Lib.byteCells (t.mo ++ tx.data.toList))
      rw [← hbc, ← hbl]
      exact ho1
    · exact absurd (List.append_eq_nil_iff.1 e).2 hne
  · rcases hX b hx with hx | hx
    · exact h.px b hb hx
    · have := (h.lo b (.inl hb)).2; omega
  · rcases hX b hx with hx | hx
    · exact h.qx b hb hx
    · have := (h.lo b (.inr (.inl hb))).2; omega
  · have hs := hw.size
    have key : ∀ i, lo ≤ i ∧ i < w.heap.size → lo ≤ i ∧ i < w'.heap.size := fun i hi => ⟨hi.1, by omega⟩
    rcases hb with hb | hb | hb
    · exact key b (h.lo b (.inl hb))
    · exact key b (h.lo b (.inr (.inl hb)))
    · rcases hX b hb with hx | hx
      · exact key b (h.lo b (.inr (.inr hx)))
      · have := ho1.lt b hx.1
        exact ⟨this.1, this.2⟩

end Go.Proofs.Ytfdgmoakobjohaa
