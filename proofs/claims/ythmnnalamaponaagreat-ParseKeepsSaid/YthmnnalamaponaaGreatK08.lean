/- Parts of the proof, in build order: MergeK CutR NamL NamA WordR. -/
import Derived.Test.YthmnnalamaponaaGreatK07
import Derived.StillTailTactics
import Derived.Test.YthmnnalamaponaaGreatK06
import Derived.Deep.AppendLies
import Derived.Deep.RegionHeld3

/- Part MergeK. -/
namespace Go.Proofs.YthmnnalamaponaaGreat
open Go.RowKit
set_option linter.unusedVariables false

structure MergeAtK (P : Nat → Prop) (w wr : World) (l : List Nd) (k : Nat) (v : Value) (out : List Nd) : Prop where
  le : k ≤ l.length
  is : mergeB (l.take k) = out
  own : OwnK wr w.heap.size P out v
  bel : Below w.heap.size w wr

def MergeRelK (P : Nat → Prop) (w : World) (l : List Nd) (x y : Value) (wr : World) : Prop := ∃ (k : Nat) (out : List Nd), y = .int .i64 k ∧ MergeAtK P w wr l k x out

set_option maxHeartbeats 2000000 in
set_option maxRecDepth 100000 in
theorem mergeR_anyK (P : Nat → Prop) (l : List Nd) (v : Value) (w : World) (hT : Tree (fun b => P b ∧ b < w.heap.size) w l v) (hsz : szL l ≤ 1000000) :
    Calls Tryz.prog 32 #[v] w fun e w' => ∃ v', e = .returned v' ∧ OwnK w' w.heap.size P (mergeB l) v' ∧ Below w.heap.size w w' := by
  have hlen := szL_len l
  obtain ⟨A, c, rfl, hc⟩ := hT.shape
  have HT := Lib.hid hT
  clear hT
  go_enter Tryz.func32, Tryz.ntmps32
  go_wp2_with fail
  go_loopw [3, 4] (fun x y wr => MergeRelK P w l x y wr) (fun _ y _ => l.length - (intOf y).toNat)
  case atStart => exact ⟨0, [], rfl, by omega, rfl, OwnK.nil _ _ _, Below.refl _ _⟩
  case round =>
    obtain ⟨k, out, rfl, HR⟩ := hrel
    have hk := HR.le
    have HO := Lib.hid HR.is
    have hown := HR.own
    have hbel := HR.bel
    clear HR
    have hos : szL out ≤ 1000000 := by
      have h1 := merge_sz (l.take k)
      have h2 := szL_take l k
      rw [HO.out] at h1
      omega
    have hol := szL_len out
    by_cases hlt : k < l.length
    · obtain ⟨b, o, c', hv, _, hS, hcell⟩ := HT.out.open_ (by omega)
      injection hv with hA _ hcc
      subst hA
      subst hcc
      obtain ⟨n, hn⟩ : ∃ n, l[k]? = some n := ⟨_, List.getElem?_eq_getElem hlt⟩
      obtain ⟨va, vk, hat⟩ := hcell k n hn
      obtain ⟨A', c'', rfl, hc''⟩ := OwnT.shape hown
      have q0 : wr.cell? ⟨b, o + k * 5, none⟩ = some (.int .i64 n.kind) := (hbel.cell (p := ⟨b, o + k * 5, none⟩) hS.2).trans hat.c0
      have q3 : wr.cell? ⟨b, o + k * 5 + 3, none⟩ = some (.string n.text) := (hbel.cell (p := ⟨b, o + k * 5 + 3, none⟩) hS.2).trans hat.c3
      have q1 : wr.cell? ⟨b, o + k * 5 + 1, none⟩ = some (.string n.name) := (hbel.cell (p := ⟨b, o + k * 5 + 1, none⟩) hS.2).trans hat.c1
      have q2 : wr.cell? ⟨b, o + k * 5 + 2, none⟩ = some va := (hbel.cell (p := ⟨b, o + k * 5 + 2, none⟩) hS.2).trans hat.c2
      have q4 : wr.cell? ⟨b, o + k * 5 + 4, none⟩ = some vk := (hbel.cell (p := ⟨b, o + k * 5 + 4, none⟩) hS.2).trans hat.c4
      have HSN := Lib.hid (show mergeB (l.take (k + 1)) = mstep out n by rw [List.take_add_one, hn, ← HO.out]; exact merge_snoc _ _)
      have hkeep := fun ob => input_keptK hbel hown ob
      have HKP := Lib.hid hkeep
      have HAT := Lib.hid hat
      have HN := Lib.hid hn
      have hown2 := fun ob => OwnK.later hown (below_new wr ob)
      have HOWN := Lib.hid hown2
      have hwr : w.heap.size ≤ wr.heap.size + 1 := by have := hbel.size; omega
      have hns := szL_at hn
      rw [szN_eq] at hns
      clear hcell hn hat hkeep hown2
      by_cases h2 : n.kind = 2
      · have B2 : (n.kind == 2) = true := by simp [h2]
        obtain ⟨q, hq⟩ : ∃ q, n.text.toList.isEmpty = q := ⟨_, rfl⟩
        cases q with
        | true =>
          have HF := Lib.hid (show mergeB (l.take (k + 1)) = out by rw [HSN.out]; unfold mstep; rw [if_pos ⟨h2, (isEmpty_iff' _).1 hq⟩])
          clear h2
          have HOW := Lib.hid hown
          clear hown
          go_wp2_with fail
          go_roundw
          case rel => exact ⟨k + 1, out, by go_num, by omega, HF.out, HOW.out, hbel⟩
          case measure => simp [intOf]; omega
        | false =>
          have hne : ¬ n.text.data.toList = [] := fun e => by rw [(isEmpty_iff' _).2 e] at hq; cases hq
          rcases Nat.eq_zero_or_pos out.length with h0 | h0
          · have he : out = [] := List.eq_nil_of_length_eq_zero h0
            subst he
            have HF := Lib.hid (show mergeB (l.take (k + 1)) = [] ++ [n] by rw [HSN.out]; unfold mstep; rw [if_neg (fun h => hne h.2), if_neg (fun h => by simp [lastText] at h)])
            have HOW := Lib.hid hown
            clear h2 hne hown h0
            go_wp2_with (at_builtin; refine wpList_append_nodeK rfl _ _ rfl w.heap.size P [] _ rfl (HOWN.out _) ⟨n, va, vk⟩ ⟨wr.heap.size, 0, none⟩ 1 rfl (new_five _ _ _) ((HAT.out.at_.keep (HKP.out _).1).mono (HKP.out _).2) ((HAT.out.kids.keep (HKP.out _).1).mono (HKP.out _).2) (by omega) (by simpa using hwr) ?_; intro v' w2 hown' hgrow)
            have hB2 : Below w.heap.size w w2 := (hbel.alloc hbel.size _).grown hgrow (by simpa using hwr) (fun g hg => (OwnT.lt HOW.out g hg).1)
            clear hgrow
            go_roundw
            case rel => exact ⟨k + 1, [] ++ [n], by go_num, by omega, HF.out, hown', hB2⟩
            case measure => simp [intOf]; omega
          · obtain ⟨m, x, hmx⟩ := snoc_of h0
            subst hmx
            obtain ⟨g, rfl, hlenx, hbg, g0, g3, gf⟩ := hown.last
            have hlm : (m ++ [x]).length = m.length + 1 := by simp
            rw [hlm] at hol
            by_cases hx2 : x.kind = 2
            · have C2 : (x.kind == 2) = true := by simp [hx2]
              have HF := Lib.hid (show mergeB (l.take (k + 1)) = m ++ [.mk x.kind x.name x.attrs (x.text ++ n.text) x.kids] by rw [HSN.out]; unfold mstep; rw [if_neg (fun h => hne h.2), if_pos ⟨h2, by rw [lastText_snoc]; exact C2⟩, mglue_snoc])
              have htx := OwnK.text hown (x.text ++ n.text)
              rw [hlm] at htx
              have HTX := Lib.hid htx
              have hxs : x.text.size ≤ 1000000 := by
                have h1 := szL_at (l := m ++ [x]) (j := m.length) (n := x) (by simp)
                rw [szN_eq] at h1
                omega
              have hns2 : n.text.size ≤ 1000000 := by omega
              have i1 : (m.length : Int) < ((m.length + 1 : Nat) : Int) := by omega
              have i2 : (0 : Int) ≤ (m.length : Int) := by omega
              have HOL := Lib.hid hlenx
              clear h2 hx2 hne hown h0 hlm htx hlenx
              rw [show (m ++ [x]).length = m.length + 1 by simp]
              go_wp2_with fail
              have i3 : (m.length : Int) < (m.length : Int) + 1 := by omega
              have i4 : (k : Int) < (l.length : Int) := by omega
              have i5 : ¬ (9223372036854775807 < x.text.size + n.text.size) := by omega
              go_still_tail 15, (by kernel_rfl)
              change wpList _ _ _ _ _ wr.drew
              clear i5
              go_wp2_with fail
              have hB2 : Below w.heap.size w (wr.setCell ⟨g, m.length * 5 + 3, none⟩ (.string (x.text ++ n.text))).drew := (hbel.setCell hbg _).drew
              go_roundw
              case rel => exact ⟨k + 1, _, by go_num, by omega, HF.out, HTX.out.1.drew, hB2⟩
              case measure => simp [intOf]; omega
            · have C2 : (x.kind == 2) = false := by simp [hx2]
              have HF := Lib.hid (show mergeB (l.take (k + 1)) = (m ++ [x]) ++ [n] by rw [HSN.out]; unfold mstep; rw [if_neg (fun h => hne h.2), if_neg (fun h => by have := h.2; rw [lastText_snoc, C2] at this; cases this)])
              have i1 : (m.length : Int) < ((m.length + 1 : Nat) : Int) := by omega
              have HOW := Lib.hid hown
              clear h2 hx2 hne hown h0 hlenx hlm
              rw [show (m ++ [x]).length = m.length + 1 by simp] at HOWN HOW ⊢
              go_wp2_with (at_builtin; refine wpList_append_nodeK rfl _ _ rfl w.heap.size P (m ++ [x]) _ rfl (HOWN.out _) ⟨n, va, vk⟩ ⟨wr.heap.size, 0, none⟩ 1 rfl (new_five _ _ _) ((HAT.out.at_.keep (HKP.out _).1).mono (HKP.out _).2) ((HAT.out.kids.keep (HKP.out _).1).mono (HKP.out _).2) (by rw [List.length_append]; simp; omega) (by simpa using hwr) ?_; intro v' w2 hown' hgrow)
              have hB2 : Below w.heap.size w w2 := (hbel.alloc hbel.size _).grown hgrow (by simpa using hwr) (fun g hg => (OwnT.lt HOW.out g hg).1)
              clear hgrow
              go_roundw
              case rel => exact ⟨k + 1, (m ++ [x]) ++ [n], by go_num, by omega, HF.out, hown', hB2⟩
              case measure => simp [intOf]; omega
      · have B2 : (n.kind == 2) = false := by simp [h2]
        have HF := Lib.hid (show mergeB (l.take (k + 1)) = out ++ [n] by rw [HSN.out]; unfold mstep; rw [if_neg (fun h => h2 h.1), if_neg (fun h => h2 h.1)])
        have HOW := Lib.hid hown
        clear h2 hown
        go_wp2_with (at_builtin; refine wpList_append_nodeK rfl _ _ rfl w.heap.size P out _ rfl (HOWN.out _) ⟨n, va, vk⟩ ⟨wr.heap.size, 0, none⟩ 1 rfl (new_five _ _ _) ((HAT.out.at_.keep (HKP.out _).1).mono (HKP.out _).2) ((HAT.out.kids.keep (HKP.out _).1).mono (HKP.out _).2) (by omega) (by simpa using hwr) ?_; intro v' w2 hown' hgrow)
        have hB2 : Below w.heap.size w w2 := (hbel.alloc hbel.size _).grown hgrow (by simpa using hwr) (fun g hg => (OwnT.lt HOW.out g hg).1)
        clear hgrow
        go_roundw
        case rel => exact ⟨k + 1, out ++ [n], by go_num, by omega, HF.out, hown', hB2⟩
        case measure => simp [intOf]; omega
    · have hm : mergeB l = out := by
        have := HO.out
        rwa [List.take_of_length_le (by omega)] at this
      have HM := Lib.hid hm
      have HOW := Lib.hid hown
      clear hm hown
      go_wp2_with fail
      go_ret
      rw [HM.out]
      exact ⟨_, rfl, HOW.out, hbel⟩

end Go.Proofs.YthmnnalamaponaaGreat

/- Part CutR. -/
namespace Go.Proofs.YthmnnalamaponaaGreat
open Go.RowKit
set_option linter.unusedVariables false
set_option linter.unusedSimpArgs false

/-- A node's own parts are no greater than anything may be. -/
structure FineN (n : Nd) : Prop where
  nm : n.name.size ≤ maxLen
  tx : n.text.size ≤ maxLen
  al : n.attrs.length ≤ maxLen
  aa : ∀ a ∈ n.attrs, a.1.size ≤ maxLen ∧ a.2.size ≤ maxLen
inductive Fine : List Nd → Prop
  | mk (l : List Nd) (hl : l.length ≤ maxLen) (h : ∀ n ∈ l, FineN n) (hk : ∀ n ∈ l, Fine n.kids) : Fine l
theorem Fine.len {l : List Nd} (h : Fine l) : l.length ≤ maxLen := by cases h; assumption
theorem Fine.at_ {l : List Nd} (h : Fine l) {k : Nat} {n : Nd} (hn : l[k]? = some n) : FineN n ∧ Fine n.kids := by
  cases h with
  | mk l hl h hk => exact ⟨h n (List.mem_of_getElem? hn), hk n (List.mem_of_getElem? hn)⟩

theorem few3_same (s : ByteArray) (w : World) (hm : s.size ≤ maxLen) :
    Calls Tryz.prog 52 #[.string s] w fun e w' => e = .returned (.string (few3S s)) ∧ w' = w :=
  (few3_any s w hm).mono fun _ _ ⟨he, hw⟩ => ⟨he, hw.symm⟩

/-- Texts alone; elements b with attributes id alone, and texts alone for kids. -/
def ShK (l : List Nd) : Prop := ∀ q ∈ l, q.kind = 2
def Sh (l : List Nd) : Prop := ∀ m ∈ l, m.kind = 1 ∧ m.name = ⟨#[98]⟩ ∧ (∀ a ∈ m.attrs, a.1 = ⟨#[105, 100]⟩) ∧ ShK m.kids
/-- Such lists stay such lists. -/
def Kp (l out : List Nd) : Prop := (ShK l → ShK out) ∧ (Sh l → Sh out)
theorem Kp.nil (l : List Nd) : Kp l [] := by
  refine ⟨fun _ => ?_, fun _ => ?_⟩
  · intro q hq; cases hq
  · intro q hq; cases hq
theorem Kp.snoc {l out out2 : List Nd} {k : Nat} {n : Nd} (h : Kp l out) (hn : l[k]? = some n) (h2 : Kp n.kids out2) {a : List (ByteArray × ByteArray)} (ha : ∀ y ∈ a, ∃ x ∈ n.attrs, y.1 = few3S x.1) (t : ByteArray) : Kp l (out ++ [.mk n.kind (few3S n.name) a t out2]) := by
  have hm := List.mem_of_getElem? hn
  refine ⟨fun hs q hq => ?_, fun hs q hq => ?_⟩
  · rcases List.mem_append.1 hq with hq | hq
    · exact h.1 hs q hq
    · simp at hq
      subst hq
      exact hs n hm
  · rcases List.mem_append.1 hq with hq | hq
    · exact h.2 hs q hq
    · simp at hq
      subst hq
      obtain ⟨e1, e2, e4, e3⟩ := hs n hm
      refine ⟨e1, ?_, fun y hy => ?_, h2.1 e3⟩
      · show few3S n.name = _
        rw [e2]
        rfl
      · obtain ⟨x, hx, e⟩ := ha y hy
        rw [e, e4 x hx]
        rfl

structure CutAt (w wr : World) (l : List Nd) (most k m : Nat) (out : List Nd) (v : Value) : Prop where
  le : k ≤ l.length
  lm : m ≤ most
  own : OwnC wr w.heap.size w.heap.size out v
  sz : szL out ≤ 420 * (most - m)
  bel : Below w.heap.size w wr
  kp : Kp l out
  ln : out.length = k
  zk : k = 0 → m = most
  k1 : (∀ n ∈ l, n.kids = []) → m + k = most
def CutRel (w : World) (l : List Nd) (most : Nat) (x y z : Value) (wr : World) : Prop := ∃ (k m : Nat) (out : List Nd), x = .int .i64 m ∧ z = .int .i64 k ∧ CutAt w wr l most k m out y

structure InAt (W0 wr : World) (j : Nat) (a : List (ByteArray × ByteArray)) (v : Value) (al : List (ByteArray × ByteArray)) : Prop where
  le : j ≤ al.length
  l5 : j ≤ 5
  ln : a.length = j
  sz : szA a ≤ 70 * j
  own : wr.ownsRow W0.heap.size 39 2 v j (acells a)
  bel : Below W0.heap.size W0 wr
  nm : ∀ y ∈ a, ∃ x ∈ al, y.1 = few3S x.1
theorem nm_snoc {a al : List (ByteArray × ByteArray)} (h : ∀ y ∈ a, ∃ x ∈ al, y.1 = few3S x.1) {x : ByteArray × ByteArray} (hx : x ∈ al) (u : ByteArray) : ∀ y ∈ a ++ [(few3S x.1, u)], ∃ x ∈ al, y.1 = few3S x.1 := by
  intro y hy
  rcases List.mem_append.1 hy with hy | hy
  · exact h y hy
  · simp at hy
    subst hy
    exact ⟨x, hx, rfl⟩
def InRel (W0 : World) (al : List (ByteArray × ByteArray)) (x y : Value) (wr : World) : Prop := ∃ (j : Nat) (a : List (ByteArray × ByteArray)), y = .int .i64 j ∧ InAt W0 wr j a x al

theorem new_two (w : World) (t : TypeId) (x y : ByteArray) : ∀ j u, (acells [(x, y)])[j]? = some u → (w.alloc (.cells #[.string x, .string y] t)).cell? ((⟨w.heap.size, 0, none⟩ : Addr).add j) = some u := by
  intro j u hj
  rw [add_zero_addr]
  match j, hj with
  | 0, hj => simp [acells] at hj; subst hj; simp
  | 1, hj => simp [acells] at hj; subst hj; simp
  | j + 2, hj => simp [acells] at hj
theorem acells_one (l : List (ByteArray × ByteArray)) : ∀ u ∈ acells l, u.oneCell' = true := by
  intro u hu
  unfold acells at hu
  obtain ⟨a, _, hu⟩ := List.mem_flatMap.1 hu
  simp at hu
  rcases hu with rfl | rfl <;> rfl

/-- What lies below the call's own rows stays, while these grow. -/
theorem far_cell {W W' : World} {B e s : Nat} {v : Value} {n : Nat} {xs : List Value} {b i : Nat} (hg : W.grownBy W' v.ownBlock) (h : W.ownsRow B e s v n xs) (hb : b < B) (hw : b < W.heap.size) : W'.cell? ⟨b, i, none⟩ = W.cell? ⟨b, i, none⟩ :=
  World.cell?_of_block (a := ⟨b, i, none⟩) (hg.block b hw (fun e => by have := (h.lt b e.symm).1; omega))

theorem kept_store {w : World} (a : Addr) (v : Value) (ob : Obj) : Kept (fun b => b ≠ a.block ∧ b < w.heap.size) w ((w.setCell a v).alloc ob) := by
  intro b hb i
  refine (World.cell?_alloc_past (w := w.setCell a v) ob b i (by simpa using hb.2)).trans ?_
  exact World.cell?_setCell_other _ _ _ _ (by intro e; exact hb.1 (by rw [e]))

/-- A node is whole: what hangs on it, and the list that it goes into. -/
theorem cut_node {w wo w2 W0 wr : World} {out out2 : List Nd} {u v2 v9 : Value} {j : Nat} {a : List (ByteArray × ByteArray)} (hw : w.heap.size ≤ wo.heap.size) (hown : OwnC wo w.heap.size w.heap.size out u)
    (hz : wo.heap.size < w2.heap.size) (h0 : W0.heap.size = w2.heap.size) (hbo : Below wo.heap.size wo W0) (kp : Kept (fun b => wo.heap.size < b ∧ b < w2.heap.size) w2 W0)
    (own2 : OwnC w2 (wo.heap.size + 1) (wo.heap.size + 1) out2 v2) (hib : Below W0.heap.size W0 wr) (hia : wr.ownsRow W0.heap.size 39 2 v9 j (acells a)) (hil : a.length = j) (ob : Obj) :
    OwnC ((wr.setCell ⟨wo.heap.size, 2, none⟩ v9).alloc ob) w.heap.size w.heap.size out u ∧ AttrsAt (Sub w.heap.size ((wr.setCell ⟨wo.heap.size, 2, none⟩ v9).alloc ob) u) ((wr.setCell ⟨wo.heap.size, 2, none⟩ v9).alloc ob) a v9 ∧
      Tree (Sub w.heap.size ((wr.setCell ⟨wo.heap.size, 2, none⟩ v9).alloc ob) u) ((wr.setCell ⟨wo.heap.size, 2, none⟩ v9).alloc ob) out2 v2 := by
  have hwr := hib.size
  have hlto := OwnT.lt hown
  have hsz : ((wr.setCell ⟨wo.heap.size, 2, none⟩ v9).alloc ob).heap.size = wr.heap.size + 1 := by simp
  have hbf : Below wo.heap.size wo ((wr.setCell ⟨wo.heap.size, 2, none⟩ v9).alloc ob) := by
    have h1 : Below wo.heap.size wo wr := hbo.trans (hib.mono (by omega))
    exact (h1.setCell (p := ⟨wo.heap.size, 2, none⟩) (Nat.le_refl _) _).alloc (by simp; omega) _
  have kf := kept_store (w := wr) ⟨wo.heap.size, 2, none⟩ v9 ob
  refine ⟨hown.later hbf, ?_, ?_⟩
  · obtain ⟨A9, c9, rfl, hc9⟩ := own_size hia
    subst hil
    refine ⟨A9, c9, rfl, hc9, ((Cells.own hia).keep (kf.mono ?_)).mono ?_⟩
    · intro b hb
      have := hia.lt b hb
      exact ⟨by show b ≠ wo.heap.size; omega, this.2⟩
    · intro b hb
      have := hia.lt b hb
      refine ⟨by omega, by rw [hsz]; omega, fun e => ?_⟩
      have := (hlto b e).2
      omega
  · have t := own2.tree (Nat.le_refl _)
    refine (((t.keep (kp.mono ?_)).keep (Kept.belowB hib ?_)).keep (kf.mono ?_)).mono ?_
    · intro b hb; omega
    · intro b hb; omega
    · intro b hb; exact ⟨by show b ≠ wo.heap.size; omega, by omega⟩
    · intro b hb
      refine ⟨by omega, by rw [hsz]; omega, fun e => ?_⟩
      have := (hlto b e).2
      omega

/-- What Cut tells. -/
def CutEnd (w : World) (l : List Nd) (most : Nat) (e : Ending) (w' : World) : Prop :=
  ∃ (out : List Nd) (v : Value) (m : Nat), e = .returned (.tuple #[v, .int .i64 m]) ∧ m ≤ most ∧ OwnC w' w.heap.size w.heap.size out v ∧ szL out ≤ 420 * (most - m) ∧ Below w.heap.size w w' ∧ Kp l out ∧ (l = [] → m = most) ∧ (l.length = 1 → 1 ≤ most → out.length = 1) ∧ ((∀ n ∈ l, n.kids = []) → m + out.length = most)

set_option maxHeartbeats 4000000 in
set_option maxRecDepth 100000 in
theorem cut_any (l : List Nd) : ∀ (S : Nat → Prop) (v : Value) (most : Nat) (w : World), Tree S w l v → (∀ b, S b → b < w.heap.size) → Fine l → most ≤ 1000 →
    Calls Tryz.prog 33 #[v, .int .i64 most] w (CutEnd w l most) := by
  induction l using nd_ind with
  | h l ih =>
    intro S v most w hT hS hF hmost
    have hlen := hF.len
    unfold maxLen at hlen
    obtain ⟨A, c, rfl, hc⟩ := hT.shape
    have HT := Lib.hid hT
    have HF := Lib.hid hF
    have IH := Lib.hid ih
    have HS := Lib.hid hS
    clear hT hF ih hS
    go_enter Tryz.func33, Tryz.ntmps33
    go_wp2_with fail
    go_loopw [1, 6, 7] (fun x y z wr => CutRel w l most x y z wr) (fun _ _ z _ => l.length - (intOf z).toNat)
    case atStart => exact ⟨0, most, [], rfl, rfl, by omega, Nat.le_refl _, OwnC.nil _ _ _, by rw [szL_nil]; omega, Below.refl _ _, Kp.nil _, rfl, fun _ => rfl, fun _ => rfl⟩
    case round =>
      obtain ⟨k, m, out, rfl, rfl, HR⟩ := hrel
      have hk := HR.le
      have hm := HR.lm
      have hown := HR.own
      have hsz := HR.sz
      have hbel := HR.bel
      have HKP := Lib.hid HR.kp
      have HLN := Lib.hid HR.ln
      have HZK := Lib.hid HR.zk
      have HK1 := Lib.hid HR.k1
      clear HR
      have hol := szL_len out
      by_cases hlt : k < l.length ∧ 0 < m
      · obtain ⟨hlt, hm0⟩ := hlt
        obtain ⟨b, o, c', hv, _, hSb, hcell⟩ := HT.out.open_ (by omega)
        injection hv with hA _ hcc
        subst hA
        subst hcc
        obtain ⟨n, hn⟩ : ∃ n, l[k]? = some n := ⟨_, List.getElem?_eq_getElem hlt⟩
        obtain ⟨va, vk, hat⟩ := hcell k n hn
        have hbw := HS.out b hSb
        have hfn := HF.out.at_ hn
        have q0 : wr.cell? ⟨b, o + k * 5, none⟩ = some (.int .i64 n.kind) := (hbel.cell (p := ⟨b, o + k * 5, none⟩) hbw).trans hat.c0
        have q1 : wr.cell? ⟨b, o + k * 5 + 1, none⟩ = some (.string n.name) := (hbel.cell (p := ⟨b, o + k * 5 + 1, none⟩) hbw).trans hat.c1
        have q2 : wr.cell? ⟨b, o + k * 5 + 2, none⟩ = some va := (hbel.cell (p := ⟨b, o + k * 5 + 2, none⟩) hbw).trans hat.c2
        have q3 : wr.cell? ⟨b, o + k * 5 + 3, none⟩ = some (.string n.text) := (hbel.cell (p := ⟨b, o + k * 5 + 3, none⟩) hbw).trans hat.c3
        have q4 : wr.cell? ⟨b, o + k * 5 + 4, none⟩ = some vk := (hbel.cell (p := ⟨b, o + k * 5 + 4, none⟩) hbw).trans hat.c4
        have ihk := IH.out k n hn S vk (m - 1)
        have HIH := Lib.hid ihk
        have HAT := Lib.hid hat
        have HFN := Lib.hid hfn
        have hm1 : (m : Int) - 1 = ((m - 1 : Nat) : Int) := by omega
        have hm0' : (0 : Int) < (m : Int) := by omega
        have hwz := hbel.size
        have HN0 := Lib.hid hn
        clear hcell hn hat hfn ihk
        obtain ⟨A2, c2, rfl, _, _⟩ := id HAT.out.at_
        obtain ⟨A4, c4, rfl, _⟩ := HAT.out.kids.shape
        go_wp2_with fail
        refine (few3_any n.name _ HFN.out.1.nm).mono ?_
        rintro e w1 ⟨rfl, rfl⟩
        go_wp2_with fail
        refine (few3_any n.text _ HFN.out.1.tx).mono ?_
        rintro e w1 ⟨rfl, rfl⟩
        go_wp2_with fail
        refine (HIH.out _ (HAT.out.kids.keep (Kept.belowB (hbel.alloc hbel.size _) HS.out)) (fun b hb => by have := HS.out b hb; simp; omega) HFN.out.2 (by omega)).mono ?_
        rintro e w2 ⟨out2, v2, m2, rfl, hm2, hown2, hsz2, hb2, hkp2, hm22, _⟩
        have HM22 := Lib.hid hm22
        clear hm22
        have HKP2 := Lib.hid hkp2
        clear hkp2
        obtain ⟨A5, c5, rfl, _⟩ := OwnT.shape hown2
        have hz2 : wr.heap.size < w2.heap.size := by have := hb2.size; simp at this; omega
        have d : ∀ j, w2.cell? ⟨wr.heap.size, j, none⟩ = _ := fun j => hb2.cell (p := ⟨wr.heap.size, j, none⟩) (by simp)
        have d0 := (d 0).trans (show _ = some (.int .i64 n.kind) by simp)
        have d1 := (d 1).trans (show _ = some (.string (few3S n.name)) by simp)
        have d2 := (d 2).trans (show _ = some (.slice A2 n.attrs.length c2) by simp)
        have d3 := (d 3).trans (show _ = some (.string (few3S n.text)) by simp)
        have d4 := (d 4).trans (show _ = some (.slice A4 n.kids.length c4) by simp)
        have f : ∀ j, w2.frozen? ⟨wr.heap.size, j, none⟩ = _ := fun j => hb2.frozen (p := ⟨wr.heap.size, j, none⟩) (by simp)
        have f2 := (f 2).trans (show _ = false by simp)
        have f4 := (f 4).trans (show _ = false by simp)
        have hbw2 : Below w.heap.size w w2 := below_after (hbel.alloc hbel.size _) hb2
        have OW2 := Lib.hid (show OwnC w2 (wr.heap.size + 1) (wr.heap.size + 1) out2 (.slice A5 out2.length c5) by simpa using hown2)
        have HB2 := Lib.hid hb2
        clear d f hown2 hb2 q0 q1 q2 q3 q4
        go_wp2_with fail
        obtain ⟨W0, hW0⟩ : ∃ W0, w2.setCell ⟨wr.heap.size, 4, none⟩ (.slice A5 out2.length c5) = W0 := ⟨_, rfl⟩
        have hz0 : W0.heap.size = w2.heap.size := by rw [← hW0]; simp
        have e0 : W0.cell? ⟨wr.heap.size, 0, none⟩ = some (.int .i64 n.kind) := by rw [← hW0, World.cell?_setCell_other _ _ _ _ (by simp)]; exact d0
        have e1 : W0.cell? ⟨wr.heap.size, 1, none⟩ = some (.string (few3S n.name)) := by rw [← hW0, World.cell?_setCell_other _ _ _ _ (by simp)]; exact d1
        have e2 : W0.cell? ⟨wr.heap.size, 2, none⟩ = some (.slice A2 n.attrs.length c2) := by rw [← hW0, World.cell?_setCell_other _ _ _ _ (by simp)]; exact d2
        have e3 : W0.cell? ⟨wr.heap.size, 3, none⟩ = some (.string (few3S n.text)) := by rw [← hW0, World.cell?_setCell_other _ _ _ _ (by simp)]; exact d3
        have e4 : W0.cell? ⟨wr.heap.size, 4, none⟩ = some (.slice A5 out2.length c5) := by rw [← hW0]; exact World.cell?_setCell_same _ _ _ d4
        have ef : W0.frozen? ⟨wr.heap.size, 2, none⟩ = false := by rw [← hW0, World.frozen?_setCell]; exact f2
        have hbw0 : Below w.heap.size w W0 := by rw [← hW0]; exact hbw2.setCell hwz _
        have kp0 : Kept (fun b => wr.heap.size < b ∧ b < w2.heap.size) w2 W0 := by
          intro b hb j
          rw [← hW0]
          exact World.cell?_setCell_other _ _ _ _ (by intro e; injection e with e; omega)
        have hbo0 : Below wr.heap.size wr W0 := by
          rw [← hW0]
          exact (((Below.refl _ wr).alloc (Nat.le_refl _) _).trans (HB2.out.mono (by simp))).setCell (p := ⟨wr.heap.size, 4, none⟩) (Nat.le_refl _) _
        rw [hW0]
        have HW0 := Lib.hid hz0
        have KP0 := Lib.hid kp0
        have HBO := Lib.hid hbo0
        have HE := Lib.hid (And.intro e0 (And.intro e1 (And.intro e2 (And.intro e3 e4))))
        have HEF := Lib.hid ef
        have hz02 : wr.heap.size < W0.heap.size := by omega
        clear hW0 d0 d1 d2 d3 d4 f2 f4 hz0 kp0 hbo0 e0 e1 e2 e3 e4 ef
        obtain ⟨wo, rfl⟩ : ∃ wo : World, wo = wr := ⟨_, rfl⟩
        go_loopw [9, 10] (fun x y wi => InRel W0 n.attrs x y wi) (fun _ y _ => n.attrs.length - (intOf y).toNat)
        case atStart => exact ⟨0, [], rfl, by omega, by omega, rfl, by simp [szA], World.ownsRow_nil _ _ _ _, Below.refl _ _, by simp⟩
        case round =>
          obtain ⟨j, a, rfl, HI⟩ := hrel
          have hj := HI.le
          have hj5 := HI.l5
          have hia := HI.own
          have hib := HI.bel
          have hiz := HI.sz
          have hil := HI.ln
          have HNM := Lib.hid HI.nm
          clear HI
          have hiw := hib.size
          have keepB : ∀ i, wr.cell? ⟨wo.heap.size, i, none⟩ = W0.cell? ⟨wo.heap.size, i, none⟩ := fun i => hib.cell (p := ⟨wo.heap.size, i, none⟩) hz02
          have g2 := (keepB 2).trans HE.out.2.2.1
          have KB := Lib.hid keepB
          clear keepB
          by_cases hin : j < n.attrs.length ∧ j < 5
          · obtain ⟨hin, hin5⟩ := hin
            obtain ⟨b2, o2, c2', hv2, _, hSb2, hac⟩ := HAT.out.at_.at_ (by omega)
            injection hv2 with hA2 _ hcc2
            subst hA2
            subst hcc2
            obtain ⟨x, hx⟩ : ∃ x, n.attrs[j]? = some x := ⟨_, List.getElem?_eq_getElem hin⟩
            have hbw2' : b2 < w.heap.size := HS.out b2 hSb2
            have hbw3 : b2 < W0.heap.size := by have := hbw0.size; omega
            have k0 : wr.cell? ⟨b2, o2 + j * 2, none⟩ = some (.string x.1) := (hib.cell (p := ⟨b2, o2 + j * 2, none⟩) hbw3).trans ((hbw0.cell (p := ⟨b2, o2 + j * 2, none⟩) hbw2').trans (hac j x hx).1)
            have k1 : wr.cell? ⟨b2, o2 + j * 2 + 1, none⟩ = some (.string x.2) := (hib.cell (p := ⟨b2, o2 + j * 2 + 1, none⟩) hbw3).trans ((hbw0.cell (p := ⟨b2, o2 + j * 2 + 1, none⟩) hbw2').trans (hac j x hx).2)
            have hxs := HFN.out.1.aa x (List.mem_of_getElem? hx)
            have i1 : (j : Int) < (n.attrs.length : Int) := by omega
            have i2 : (0 : Int) ≤ (j : Int) := by omega
            have HX := Lib.hid hxs
            have HX0 := Lib.hid (List.mem_of_getElem? hx)
            clear hac hx hxs
            obtain ⟨i0, hi, hz0, hz1, hz2'⟩ := info_parts info_attr
            have HI0 := Lib.hid (And.intro hi (And.intro hz0 (And.intro hz1 hz2')))
            clear hi hz0 hz1 hz2'
            go_wp2_with fail
            have hbw4 : b2 < wr.heap.size := by omega
            have hbw5 : wo.heap.size < wr.heap.size := by omega
            have nn0 := World.new_ne wr ⟨wo.heap.size, 2, none⟩ g2
            have nn1 := World.new_ne wr ⟨b2, o2 + j * 2, none⟩ k0
            have nn2 := World.new_ne wr ⟨b2, o2 + j * 2 + 1, none⟩ k1
            go_region_held3 (fun W => W.cell? ⟨wo.heap.size, 2, none⟩ = some (.slice (some ⟨b2, o2, none⟩) n.attrs.length c2) ∧ W.cell? ⟨b2, o2 + j * 2, none⟩ = some (.string x.1) ∧ W.cell? ⟨b2, o2 + j * 2 + 1, none⟩ = some (.string x.2)) (first | exact ⟨g2, k0, k1⟩ | go_keep | (refine ⟨(far_cell hgr3 (hia.alloc _) hz02 (by simp <;> omega)).trans ?_, (far_cell hgr3 (hia.alloc _) hbw3 (by simp <;> omega)).trans ?_, (far_cell hgr3 (hia.alloc _) hbw3 (by simp <;> omega)).trans ?_⟩ <;> go_keep)) ((first | (refine step_append_lies _ rfl _ _ _ rfl W0.heap.size 39 i0 _ 2 32 Tryz.underlying33 HI0.out.1 HI0.out.2.1 HI0.out.2.2.1 HI0.out.2.2.2 rfl (by decide) _ j (acells a) rfl (hia.alloc _) ⟨wr.heap.size, 0, none⟩ 1 1 (acells [(few3S x.1, few3S x.2)]) rfl rfl (new_two wr _ _ _) (acells_one _) (by decide) (by unfold maxLen; omega) (by omega) (by simp; omega) (wr.heap.size + 1) (by simp) ?_; intro g cap w3 hown3 hgr3 hlies hlt3) | (go_at_call 52; refine (few3_any x.1 _ HX.out.1).mono ?_; rintro e w' ⟨rfl, rfl⟩) | (go_at_call 52; refine (few3_any x.2 _ HX.out.2).mono ?_; rintro e w' ⟨rfl, rfl⟩)))
            have hb3 : Below W0.heap.size W0 w3 := ((hib.alloc hib.size _).drew).grown hgr3 (by simp <;> omega) (fun g hg => (hia.lt g hg).1)
            have hsx := few3S_size x.1
            have hsy := few3S_size x.2
            have H3 := Lib.hid (show InAt W0 w3 (j + 1) (a ++ [(few3S x.1, few3S x.2)]) (.slice (some ⟨g, 0, none⟩) (j + 1) cap) n.attrs from
              ⟨by omega, by omega, by rw [List.length_append, hil]; rfl, by rw [szA_append]; simp only [szA]; omega, by rw [acells_append]; exact hown3, hb3, nm_snoc HNM.out HX0.out _⟩)
            clear hgr3 hlies hown3 hb3
            rename_i hheld
            clear hheld
            go_wp2_with fail
            go_roundw
            case rel => exact ⟨j + 1, _, by go_num, H3.out⟩
            case measure => simp [intOf]; omega
          · have hex : n.attrs.length ≤ j ∨ (j < n.attrs.length ∧ 5 ≤ j) := by omega
            obtain ⟨A9, c9, rfl, hc9⟩ := own_size hia
            have c0 := (KB.out 0).trans HE.out.1
            have c1 := (KB.out 1).trans HE.out.2.1
            have c2' := (KB.out 2).trans HE.out.2.2.1
            have c3 := (KB.out 3).trans HE.out.2.2.2.1
            have c4 := (KB.out 4).trans HE.out.2.2.2.2
            have cf : wr.frozen? ⟨wo.heap.size, 2, none⟩ = false := (hib.frozen (p := ⟨wo.heap.size, 2, none⟩) hz02).trans HEF.out
            obtain ⟨A6, c6, rfl, hc6⟩ := OwnT.shape hown
            have hnode := fun ob => cut_node (w := w) (wo := wo) (w2 := w2) (W0 := W0) (wr := wr) (j := j) (a := a) hwz hown hz2 HW0.out HBO.out KP0.out OW2.out hib hia hil ob
            have HND := Lib.hid hnode
            have hbf : Below w.heap.size w (wr.setCell ⟨wo.heap.size, 2, none⟩ (.slice A9 j c9)) := (hbw0.trans (hib.mono (by have := hbw0.size; omega))).setCell (p := ⟨wo.heap.size, 2, none⟩) hwz _
            have hsn := few3S_size n.name
            have hst := few3S_size n.text
            have hlo := OwnT.lt hown
            have HLO := Lib.hid hlo
            have HIA := Lib.hid hia
            have HIL := Lib.hid hil
            have hwr3 : w.heap.size ≤ wr.heap.size + 1 := by have := hbw0.size; omega
            clear hnode hlo hia hil hown
            have hn5 : ∀ i u, (ncells1 ⟨.mk n.kind (few3S n.name) a (few3S n.text) out2, .slice A9 j c9, .slice A5 out2.length c5⟩)[i]? = some u →
                ((wr.setCell ⟨wo.heap.size, 2, none⟩ (.slice A9 j c9)).alloc (.cells #[.int .i64 n.kind, .string (few3S n.name), .slice A9 j c9, .string (few3S n.text), .slice A5 out2.length c5] 35)).cell? ((⟨wr.heap.size, 0, none⟩ : Addr).add i) = some u := by
              intro i u hi
              have := new_five (wr.setCell ⟨wo.heap.size, 2, none⟩ (.slice A9 j c9)) 35 ⟨.mk n.kind (few3S n.name) a (few3S n.text) out2, .slice A9 j c9, .slice A5 out2.length c5⟩ i u hi
              rw [show (wr.setCell ⟨wo.heap.size, 2, none⟩ (.slice A9 j c9)).heap.size = wr.heap.size by simp] at this
              exact this
            have HN5 := Lib.hid hn5
            clear hn5
            rcases hex with hex | ⟨hex1, hex2⟩
            all_goals
              go_wp2_with (at_builtin; refine wpList_append_node rfl _ _ rfl w.heap.size w.heap.size out (.slice A6 out.length c6) rfl (HND.out _).1 ⟨.mk n.kind (few3S n.name) a (few3S n.text) out2, .slice A9 j c9, .slice A5 out2.length c5⟩ ⟨wr.heap.size, 0, none⟩ 1 rfl HN5.out (HND.out _).2.1 (HND.out _).2.2 (by omega) (by simpa using hwr3) ?_; intro v' w4 hown' hgrow)
              have hB4 : Below w.heap.size w w4 := (hbf.alloc hbf.size _).grown hgrow (by simpa using hwr3) (fun g hg => (HLO.out g hg).1)
              clear hgrow
              go_roundw
              case rel =>
                refine ⟨k + 1, m2, out ++ [.mk n.kind (few3S n.name) a (few3S n.text) out2], rfl, by go_num, by omega, by omega, hown', ?_, hB4, HKP.out.snoc HN0.out HKP2.out HNM.out _, by have := HLN.out; rw [List.length_append, List.length_singleton]; omega, fun h => absurd h (by omega), fun h => by have h1 := HK1.out h; have h2 := HM22.out (h n (List.mem_of_getElem? HN0.out)); omega⟩
                rw [szL_append, szL_cons, szL_nil, szN_mk]
                omega
              case measure => simp [intOf]; omega
      · have hex : l.length ≤ k ∨ (k < l.length ∧ m = 0) := by omega
        have HOW := Lib.hid hown
        rcases hex with hex | ⟨hex, rfl⟩
        all_goals
          clear hown
          go_wp2_with fail
          go_ret2
          exact ⟨out, _, _, rfl, hm, HOW.out, hsz, hbel, HKP.out, fun h0 => HZK.out (by subst h0; simpa using hk), fun h1 h2 => by have := HLN.out; have := HZK.out; omega, fun h => by have h1 := HK1.out h; have h2 := HLN.out; omega⟩

end Go.Proofs.YthmnnalamaponaaGreat

/- Part NamL. -/
namespace Go.Proofs.YthmnnalamaponaaGreat
open Go.RowKit
set_option linter.unusedVariables false

theorem byte_at (s : ByteArray) (l : List UInt8) (h : s.data.toList = l) : ∀ k, (hk : k < s.size) → l[k]? = some s[k] := by
  intro k hk
  rw [← h, List.getElem?_eq_getElem (by simpa using hk)]
  rw [at_data s k hk]
theorem take_snoc1 {l : List UInt8} {k : Nat} {c : UInt8} (h : l[k]? = some c) : l.take (k + 1) = l.take k ++ [c] := by rw [List.take_add_one, h]; rfl

set_option maxHeartbeats 2000000 in
set_option maxRecDepth 100000 in
theorem namedR_any (s : ByteArray) (w : World) (hm : s.size ≤ 100000) :
    Calls Tryz.prog 50 #[.string s] w fun e w' => e = .returned (.bool (namedB s.data.toList)) ∧ w = w' := by
  obtain ⟨l, hl⟩ : ∃ l, s.data.toList = l := ⟨_, rfl⟩
  have hlz : s.size = l.length := by rw [← hl]; simp
  rw [hl]
  by_cases h0 : s.size = 0
  · have HF := Lib.hid (show namedB l = false by rw [List.eq_nil_of_length_eq_zero (by omega : l.length = 0)]; rfl)
    have B : ((s.size : Int) == 0) = true := by rw [h0]; rfl
    clear hl hlz
    go_enter Tryz.func50, Tryz.ntmps50
    go_wp2_with fail
    go_ret
    exact ⟨by rw [HF.out]; rfl, rfl⟩
  · have hp : 0 < s.size := by omega
    have B : ((s.size : Int) == 0) = false := by rw [beq_eq_false_iff_ne]; omega
    have hat := byte_at s l hl
    have hg0 := hat 0 hp
    obtain ⟨c0, hc0⟩ : ∃ c, s[0] = c := ⟨_, rfl⟩
    rw [hc0] at hg0
    have hnB : namedB l = (smC c0 && l.all namC) := by
      cases l with
      | nil => simp at hg0
      | cons a t => simp at hg0; subst hg0; rfl
    obtain ⟨q0, hq0⟩ : ∃ q, smC c0 = q := ⟨_, rfl⟩
    rw [hq0] at hnB
    have HNB := Lib.hid hnB
    have HAT := Lib.hid hat
    have HZ := Lib.hid hlz
    have HC0 := Lib.hid hc0
    have HQ0 := Lib.hid hq0
    clear hl hlz h0 hat hg0 hnB hc0 hq0
    go_enter Tryz.func50, Tryz.ntmps50
    go_wp2_with fail
    rw [HC0.out]
    refine (small3_any c0 _).mono ?_
    rw [HQ0.out]
    rintro e w1 ⟨rfl, rfl⟩
    go_wp2_with fail
    go_loop [4] (fun y => ∃ k : Nat, y = .int .i64 k ∧ k ≤ s.size ∧ Hid ((l.take k).all namC = true)) (fun y => s.size - (intOf y).toNat)
    case atStart => exact ⟨0, rfl, by omega, Lib.hid rfl⟩
    case round =>
      obtain ⟨k, rfl, hk, HA⟩ := hrel
      by_cases hlt : k < s.size
      · have hg := HAT.out k hlt
        obtain ⟨c, hc⟩ : ∃ c, s[k] = c := ⟨_, rfl⟩
        rw [hc] at hg
        have htk := take_snoc1 hg
        have hno := fun h => all_false (p := namC) hg h
        have HNO := Lib.hid hno
        have HC := Lib.hid hc
        have HST := Lib.hid (show namC c = true → (l.take (k + 1)).all namC = true by intro h; rw [htk, all_snoc, HA.out, h]; rfl)
        clear hg htk hno
        by_cases hs : smC c = true
        · have HS := Lib.hid hs
          have HN := Lib.hid (HST.out (by unfold namC; rw [hs]; rfl))
          clear hs hc
          go_wp2_with fail
          rw [HC.out]
          refine (small3_any c _).mono ?_
          rw [HS.out]
          rintro e w1 ⟨rfl, rfl⟩
          go_wp2_with fail
          go_round
          case rel => exact ⟨k + 1, by go_num, by omega, HN⟩
          case measure => simp [intOf]; omega
        · have hs' : smC c = false := by simpa using hs
          have HS := Lib.hid hs'
          by_cases hn : namC c = true
          · have HN := Lib.hid (HST.out hn)
            by_cases h45 : c.toNat = 45
            · have D1 : decide ((s[k].toNat : Int) < 48) = true := by rw [hc]; simp; omega
              have D3 : ((s[k].toNat : Int) != 45) = false := by rw [hc, h45]; rfl
              clear hs hs' hn hc h45
              go_wp2_with fail
              rw [HC.out]
              refine (small3_any c _).mono ?_
              rw [HS.out]
              rintro e w1 ⟨rfl, rfl⟩
              go_wp2_with fail
              go_round
              case rel => exact ⟨k + 1, by go_num, by omega, HN⟩
              case measure => simp [intOf]; omega
            · have hd : 48 ≤ c.toNat ∧ c.toNat ≤ 57 := by
                unfold namC at hn
                rw [hs'] at hn
                simp at hn
                omega
              have D1 : decide ((s[k].toNat : Int) < 48) = false := by rw [hc]; simp; omega
              have D2 : decide (57 < (s[k].toNat : Int)) = false := by rw [hc]; simp; omega
              clear hs hs' hn hc h45 hd
              go_wp2_with fail
              rw [HC.out]
              refine (small3_any c _).mono ?_
              rw [HS.out]
              rintro e w1 ⟨rfl, rfl⟩
              go_wp2_with fail
              go_round
              case rel => exact ⟨k + 1, by go_num, by omega, HN⟩
              case measure => simp [intOf]; omega
          · have hn' : namC c = false := by simpa using hn
            have HF := Lib.hid (show namedB l = false by rw [HNB.out, HNO.out hn']; simp)
            have hb : ¬ c.toNat = 45 ∧ (c.toNat < 48 ∨ 57 < c.toNat) := by
              unfold namC at hn'
              rw [hs'] at hn'
              simp at hn'
              omega
            have D3 : ((s[k].toNat : Int) != 45) = true := by rw [hc]; simp; omega
            obtain ⟨hb1, hb2⟩ := hb
            rcases (show c.toNat < 48 ∨ (48 ≤ c.toNat ∧ 57 < c.toNat) by omega) with hb | ⟨hb, hb'⟩
            case' inl => have D1 : decide ((s[k].toNat : Int) < 48) = true := by rw [hc]; simp; omega
            case' inr =>
              have D1 : decide ((s[k].toNat : Int) < 48) = false := by rw [hc]; simp; omega
              have D2 : decide (57 < (s[k].toNat : Int)) = true := by rw [hc]; simp; omega
            all_goals
              clear hs hs' hn hn' hc hb1 hb2
              go_wp2_with fail
              rw [HC.out]
              refine (small3_any c _).mono ?_
              rw [HS.out]
              rintro e w1 ⟨rfl, rfl⟩
              go_wp2_with fail
              go_ret
              exact ⟨by rw [HF.out]; rfl, rfl⟩
      · have HF := Lib.hid (show namedB l = q0 by
          rw [HNB.out]
          have := HA.out
          rw [List.take_of_length_le (by have := HZ.out; omega)] at this
          rw [this, Bool.and_true])
        go_wp2_with fail
        go_ret
        exact ⟨by rw [HF.out]; rfl, rfl⟩

end Go.Proofs.YthmnnalamaponaaGreat

/- Part NamA. -/
namespace Go.Proofs.YthmnnalamaponaaGreat
open Go.RowKit
set_option linter.unusedVariables false

theorem byte_no {c : UInt8} {n : Nat} (h : c.toNat ≠ n) : ((c.toNat : Int) == (n : Int)) = false := by
  rw [beq_eq_false_iff_ne]
  omega

theorem attC_true {c : UInt8} (h : attC c = true) : (c.toNat < 65 ∨ 90 < c.toNat) ∧ c.toNat ≠ 9 ∧ c.toNat ≠ 10 ∧ c.toNat ≠ 12 ∧ c.toNat ≠ 32 ∧ c.toNat ≠ 47 ∧ c.toNat ≠ 62 ∧ c.toNat ≠ 61 := by
  unfold attC at h
  simp at h
  omega
theorem attC_false {c : UInt8} (h : attC c = false) : (65 ≤ c.toNat ∧ c.toNat ≤ 90) ∨ c.toNat = 9 ∨ c.toNat = 10 ∨ c.toNat = 12 ∨ c.toNat = 32 ∨ c.toNat = 47 ∨ c.toNat = 62 ∨ c.toNat = 61 := by
  unfold attC at h
  simp at h
  omega

set_option maxHeartbeats 4000000 in
set_option maxRecDepth 100000 in
theorem attrR_any (s : ByteArray) (w : World) (hm : s.size ≤ 100000) :
    Calls Tryz.prog 51 #[.string s] w fun e w' => e = .returned (.bool (attrB s.data.toList)) ∧ Below w.heap.size w w' := by
  obtain ⟨l, hl⟩ : ∃ l, s.data.toList = l := ⟨_, rfl⟩
  have hlz : s.size = l.length := by rw [← hl]; simp
  have hi := isR_any s w hm
  rw [hl] at hi ⊢
  obtain ⟨q, hq⟩ : ∃ q, isB l = q := ⟨_, rfl⟩
  rw [hq] at hi
  have HI := Lib.hid hi
  have HQ := Lib.hid hq
  have HAT := Lib.hid (byte_at s l hl)
  have HZ := Lib.hid hlz
  clear hl hlz hi hq
  go_enter Tryz.func51, Tryz.ntmps51
  go_wp2_with fail
  refine HI.out.mono ?_
  rintro e w1 ⟨rfl, hb1⟩
  go_wp2_with fail
  go_loop [4] (fun y => ∃ k : Nat, y = .int .i64 k ∧ k ≤ s.size ∧ Hid ((l.take k).all attC = true)) (fun y => s.size - (intOf y).toNat)
  case atStart => exact ⟨0, rfl, by omega, Lib.hid rfl⟩
  case round =>
    obtain ⟨k, rfl, hk, HA⟩ := hrel
    by_cases hlt : k < s.size
    · have hg := HAT.out k hlt
      obtain ⟨c, hc⟩ : ∃ c, s[k] = c := ⟨_, rfl⟩
      rw [hc] at hg
      have htk := take_snoc1 hg
      have HNO := Lib.hid (fun h => all_false (p := attC) hg h)
      have HST := Lib.hid (show attC c = true → (l.take (k + 1)).all attC = true by intro h; rw [htk, all_snoc, HA.out, h]; rfl)
      clear hg htk
      by_cases ha : attC c = true
      · have HN := Lib.hid (HST.out ha)
        obtain ⟨h1, h2, h3, h4, h5, h6, h7, h8⟩ := attC_true ha
        have B2 : ((s[k].toNat : Int) == 9) = false := by rw [hc]; exact byte_no h2
        have B3 : ((s[k].toNat : Int) == 10) = false := by rw [hc]; exact byte_no h3
        have B4 : ((s[k].toNat : Int) == 12) = false := by rw [hc]; exact byte_no h4
        have B5 : ((s[k].toNat : Int) == 32) = false := by rw [hc]; exact byte_no h5
        have B6 : ((s[k].toNat : Int) == 47) = false := by rw [hc]; exact byte_no h6
        have B7 : ((s[k].toNat : Int) == 62) = false := by rw [hc]; exact byte_no h7
        have B8 : ((s[k].toNat : Int) == 61) = false := by rw [hc]; exact byte_no h8
        rcases (show c.toNat < 65 ∨ (65 ≤ c.toNat ∧ 90 < c.toNat) by omega) with hb | ⟨hb, hb'⟩
        case' inl => have D1 : decide (65 ≤ (s[k].toNat : Int)) = false := by rw [hc]; simp; omega
        case' inr =>
          have D1 : decide (65 ≤ (s[k].toNat : Int)) = true := by rw [hc]; simp; omega
          have D2 : decide ((s[k].toNat : Int) ≤ 90) = false := by rw [hc]; simp; omega
        all_goals
          clear h1 h2 h3 h4 h5 h6 h7 h8 ha hc
          go_wp2_with fail
          go_round
          case rel => exact ⟨k + 1, by go_num, by omega, HN⟩
          case measure => simp [intOf]; omega
      · have ha' : attC c = false := by simpa using ha
        have HF := Lib.hid (show attrB l = false by unfold attrB; rw [HNO.out ha']; simp)
        rcases attC_false ha' with ⟨h1, h2⟩ | h | h | h | h | h | h | h
        case' inl =>
          have D1 : decide (65 ≤ (s[k].toNat : Int)) = true := by rw [hc]; simp; omega
          have D2 : decide ((s[k].toNat : Int) ≤ 90) = true := by rw [hc]; simp; omega
          clear h1 h2
        case' inr.inl => have hv : (s[k].toNat : Int) = 9 := by rw [hc, h]; rfl
        case' inr.inr.inl => have hv : (s[k].toNat : Int) = 10 := by rw [hc, h]; rfl
        case' inr.inr.inr.inl => have hv : (s[k].toNat : Int) = 12 := by rw [hc, h]; rfl
        case' inr.inr.inr.inr.inl => have hv : (s[k].toNat : Int) = 32 := by rw [hc, h]; rfl
        case' inr.inr.inr.inr.inr.inl => have hv : (s[k].toNat : Int) = 47 := by rw [hc, h]; rfl
        case' inr.inr.inr.inr.inr.inr.inl => have hv : (s[k].toNat : Int) = 62 := by rw [hc, h]; rfl
        case' inr.inr.inr.inr.inr.inr.inr => have hv : (s[k].toNat : Int) = 61 := by rw [hc, h]; rfl
        all_goals
          first | clear h | skip
          clear ha ha' hc
          go_wp2_with fail
          go_ret
          exact ⟨by rw [HF.out]; rfl, hb1⟩
    · have hA : l.all attC = true := by
        have := HA.out
        rwa [List.take_of_length_le (by have := HZ.out; omega)] at this
      have HF := Lib.hid (show attrB l = (q && decide (0 < s.size)) by
        unfold attrB
        rw [HQ.out, hA, Bool.and_true]
        congr 1
        have := HZ.out
        cases l with
        | nil => simp at this; simp [this]
        | cons a t => simp at this; simp; omega)
      clear hA
      cases q with
      | false =>
        go_wp2_with fail
        go_ret
        exact ⟨by rw [HF.out]; rfl, hb1⟩
      | true =>
        have HF2 := Lib.hid (show attrB l = decide (0 < s.size) by rw [HF.out, Bool.true_and])
        by_cases hp : 0 < s.size
        case' pos => have D : decide (0 < s.size) = true := decide_eq_true hp
        case' neg => have D : decide (0 < s.size) = false := decide_eq_false hp
        all_goals
          rw [D] at HF2
          go_wp2_with fail
          go_ret
          exact ⟨by rw [HF2.out]; rfl, hb1⟩

end Go.Proofs.YthmnnalamaponaaGreat

/- Part WordR. -/
namespace Go.Proofs.YthmnnalamaponaaGreat
open Go.RowKit
set_option linter.unusedVariables false

theorem below_newN (w : World) (o : Obj) : Below w.heap.size w (w.alloc o) := (Below.refl _ _).alloc (Nat.le_refl _) _

/-- A text that is a name, as long as another one or six bytes. -/
def SomeName (P : List UInt8 → Bool) (n : Nat) (w : World) (e : Ending) (w' : World) : Prop := ∃ t : ByteArray, e = .returned (.string t) ∧ P t.data.toList = true ∧ t.size ≤ n + 7 ∧ Below w.heap.size w w'

theorem word_cell (w : World) (t : TypeId) (m : Nat) (h : m < 10) :
    ∃ x : ByteArray, (w.alloc (.cells #[.string ⟨#[97]⟩, .string ⟨#[98]⟩, .string ⟨#[112]⟩, .string ⟨#[117, 108]⟩, .string ⟨#[108, 105]⟩, .string ⟨#[98, 114]⟩, .string ⟨#[105, 109, 103]⟩, .string ⟨#[100, 105, 118]⟩, .string ⟨#[115, 99, 114, 105, 112, 116]⟩, .string ⟨#[120, 45, 121]⟩] t)).cell? ⟨w.heap.size, m, none⟩ = some (.string x) ∧ namedB x.data.toList = true ∧ x.size ≤ 7 := by
  have : m = 0 ∨ m = 1 ∨ m = 2 ∨ m = 3 ∨ m = 4 ∨ m = 5 ∨ m = 6 ∨ m = 7 ∨ m = 8 ∨ m = 9 := by omega
  rcases this with rfl | rfl | rfl | rfl | rfl | rfl | rfl | rfl | rfl | rfl
  all_goals exact ⟨_, by simp; rfl, by decide, by decide⟩

set_option maxHeartbeats 2000000 in
theorem word_any (s : ByteArray) (w : World) (hm : s.size ≤ 100000) :
    Calls Tryz.prog 29 #[.string s] w (SomeName namedB s.size w) := by
  have hn := fun w => namedR_any s w hm
  obtain ⟨q, hq⟩ : ∃ q, namedB s.data.toList = q := ⟨_, rfl⟩
  rw [hq] at hn
  have HN := Lib.hid hn
  have HQ := Lib.hid hq
  clear hn hq
  go_enter Tryz.func29, Tryz.ntmps29
  go_wp2_with fail
  go_loop [4, 5] (fun x y => ∃ (n k : Nat), x = .int .i64 n ∧ y = .int .i64 k ∧ k ≤ s.size ∧ n ≤ 255 * k) (fun _ y => s.size - (intOf y).toNat)
  case atStart => exact ⟨0, 0, rfl, rfl, by omega, by omega⟩
  case round =>
    obtain ⟨n, k, rfl, rfl, hk, hn⟩ := hrel
    by_cases hlt : k < s.size
    · have hb := s[k].toNat_lt
      have hb' : (s[k].toNat : Int) ≤ 255 := by omega
      have hn' : (n : Int) ≤ 25500000 := by omega
      clear hb
      go_wp2_with fail
      go_round
      case rel => exact ⟨n + s[k].toNat, k + 1, by go_num, by go_num, by omega, by have := s[k].toNat_lt; omega⟩
      case measure => simp [intOf]; omega
    · have hn' : (n : Int) ≤ 25500000 := by omega
      obtain ⟨t, ht, htn, htz⟩ := word_cell w 9 (n % 10) (by omega)
      have HTN := Lib.hid htn
      clear htn
      cases q with
      | true =>
        clear ht
        go_wp2_with fail
        refine (HN.out _).mono ?_
        rintro e w1 ⟨rfl, rfl⟩
        go_wp2_with fail
        go_ret
        exact ⟨s, rfl, HQ.out, by omega, below_newN _ _⟩
      | false =>
        go_wp2_with fail
        refine (HN.out _).mono ?_
        rintro e w1 ⟨rfl, rfl⟩
        go_wp2_with fail
        go_ret
        exact ⟨t, rfl, HTN.out, by omega, below_newN _ _⟩

theorem attr_cell (w : World) (t : TypeId) (m : Nat) (h : m < 5) :
    ∃ x : ByteArray, (w.alloc (.cells #[.string ⟨#[105, 100]⟩, .string ⟨#[104, 114, 101, 102]⟩, .string ⟨#[116, 105, 116, 108, 101]⟩, .string ⟨#[100, 97, 116, 97, 45, 97]⟩, .string ⟨#[111, 110, 99, 108, 105, 99, 107]⟩] t)).cell? ⟨w.heap.size, m, none⟩ = some (.string x) ∧ attrB x.data.toList = true ∧ x.size ≤ 7 := by
  have : m = 0 ∨ m = 1 ∨ m = 2 ∨ m = 3 ∨ m = 4 := by omega
  rcases this with rfl | rfl | rfl | rfl | rfl
  all_goals exact ⟨_, by simp; rfl, by decide +kernel, by decide⟩

set_option maxHeartbeats 2000000 in
theorem attribute_any (s : ByteArray) (w : World) (hm : s.size ≤ 100000) :
    Calls Tryz.prog 30 #[.string s] w (SomeName attrB s.size w) := by
  have hn := attrR_any s w hm
  obtain ⟨q, hq⟩ : ∃ q, attrB s.data.toList = q := ⟨_, rfl⟩
  rw [hq] at hn
  have HN := Lib.hid hn
  have HQ := Lib.hid hq
  clear hn hq
  go_enter Tryz.func30, Tryz.ntmps30
  go_wp2_with fail
  refine HN.out.mono ?_
  rintro e w1 ⟨rfl, hb1⟩
  obtain ⟨t, ht, htn, htz⟩ := attr_cell w1 9 (s.size % 5) (by omega)
  have HTN := Lib.hid htn
  clear htn
  cases q with
  | true =>
    clear ht
    go_wp2_with fail
    go_ret
    exact ⟨s, rfl, HQ.out, by omega, hb1⟩
  | false =>
    go_wp2_with fail
    go_ret
    exact ⟨t, rfl, HTN.out, by omega, below_after hb1 (below_newN _ _)⟩

/-- What is told of an attribute's name: it may be one; one that may be stays. -/
def AttN (s t : ByteArray) : Prop := attrB t.data.toList = true ∧ (attrB s.data.toList = true → t = s)
def SomeAtt (s : ByteArray) (w : World) (e : Ending) (w' : World) : Prop := ∃ t : ByteArray, e = .returned (.string t) ∧ AttN s t ∧ t.size ≤ s.size + 7 ∧ Below w.heap.size w w'
theorem attribute_eq (s : ByteArray) (w : World) (hm : s.size ≤ 100000) :
    Calls Tryz.prog 30 #[.string s] w (SomeAtt s w) := by
  have hn := attrR_any s w hm
  obtain ⟨q, hq⟩ : ∃ q, attrB s.data.toList = q := ⟨_, rfl⟩
  rw [hq] at hn
  have HN := Lib.hid hn
  have HQ := Lib.hid hq
  clear hn hq
  go_enter Tryz.func30, Tryz.ntmps30
  go_wp2_with fail
  refine HN.out.mono ?_
  rintro e w1 ⟨rfl, hb1⟩
  obtain ⟨t, ht, htn, htz⟩ := attr_cell w1 9 (s.size % 5) (by omega)
  have HTN := Lib.hid htn
  clear htn
  cases q with
  | true =>
    clear ht
    go_wp2_with fail
    go_ret
    exact ⟨s, rfl, ⟨HQ.out, fun _ => rfl⟩, by omega, hb1⟩
  | false =>
    go_wp2_with fail
    go_ret
    exact ⟨t, rfl, ⟨HTN.out, fun h => by rw [HQ.out] at h; cases h⟩, by omega, below_after hb1 (below_newN _ _)⟩

set_option maxHeartbeats 2000000 in
/-- A name that is one stays. -/
theorem word_is (s : ByteArray) (w : World) (hm : s.size ≤ 100000) (hq : namedB s.data.toList = true) :
    Calls Tryz.prog 29 #[.string s] w fun e w' => e = .returned (.string s) ∧ Below w.heap.size w w' := by
  have hn := fun w => namedR_any s w hm
  rw [hq] at hn
  have HN := Lib.hid hn
  clear hn hq
  go_enter Tryz.func29, Tryz.ntmps29
  go_wp2_with fail
  go_loop [4, 5] (fun x y => ∃ (n k : Nat), x = .int .i64 n ∧ y = .int .i64 k ∧ k ≤ s.size ∧ n ≤ 255 * k) (fun _ y => s.size - (intOf y).toNat)
  case atStart => exact ⟨0, 0, rfl, rfl, by omega, by omega⟩
  case round =>
    obtain ⟨n, k, rfl, rfl, hk, hn⟩ := hrel
    by_cases hlt : k < s.size
    · have hb := s[k].toNat_lt
      have hb' : (s[k].toNat : Int) ≤ 255 := by omega
      have hn' : (n : Int) ≤ 25500000 := by omega
      clear hb
      go_wp2_with fail
      go_round
      case rel => exact ⟨n + s[k].toNat, k + 1, by go_num, by go_num, by omega, by have := s[k].toNat_lt; omega⟩
      case measure => simp [intOf]; omega
    · have hn' : (n : Int) ≤ 25500000 := by omega
      go_wp2_with fail
      refine (HN.out _).mono ?_
      rintro e w1 ⟨rfl, rfl⟩
      go_wp2_with fail
      go_ret
      exact ⟨rfl, below_newN _ _⟩

theorem word_eq (s : ByteArray) (w : World) (hm : s.size ≤ 100000) :
    Calls Tryz.prog 29 #[.string s] w fun e w' => ∃ t : ByteArray, e = .returned (.string t) ∧ namedB t.data.toList = true ∧ t.size ≤ s.size + 7 ∧ Below w.heap.size w w' ∧ (namedB s.data.toList = true → t = s) := by
  by_cases hq : namedB s.data.toList = true
  · refine (word_is s w hm hq).mono ?_
    rintro e w' ⟨rfl, hb⟩
    exact ⟨s, rfl, hq, by omega, hb, fun _ => rfl⟩
  · refine (word_any s w hm).mono ?_
    rintro e w' ⟨t, rfl, h1, h2, hb⟩
    exact ⟨t, rfl, h1, h2, hb, fun h => absurd h hq⟩

end Go.Proofs.YthmnnalamaponaaGreat
