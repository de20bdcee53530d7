/- Parts of the proof, in build order: CutR OpenT Glb TkT OpenK TkR MergeR NamL NamA WordR ValR. -/
import Derived.Test.YtfdgmoakobjohaaK02
import Derived.Test.YtfdgmoakobjohaaK08
import Derived.Deep.AppendLies
import Derived.Deep.RegionHeld3
import Derived.ChangeArms
import Derived.DataReads
import Derived.Deep.Fields
import Derived.ProofKit
import Derived.OpenShut
import Derived.Test.YtfdgmoakobjohaaK01
import Derived.Test.YtfdgmoakobjohaaK04
import Derived.StillTailTactics

/- Part CutR. -/
namespace Go.Proofs.Ytfdgmoakobjohaa
open Go.RowKit
set_option linter.unusedVariables false
set_option linter.unusedSimpArgs false

/-- A node's own parts are no greater than anything may be. -/
structure FineN (n : Nd) : Prop where
  nm : n.name.size ≤ maxLen
  tx : n.text.size ≤ maxLen
  al : n.attrs.length ≤ maxLen
  aa : ∀ a ∈ n.attrs, a.1.size ≤ maxLen ∧ a.2.size ≤ maxLen
inductive Fine : List Nd → Prop
  | mk (l : List Nd) (hl : l.length ≤ maxLen) (h : ∀ n ∈ l, FineN n) (hk : ∀ n ∈ l, Fine n.kids) : Fine l
theorem Fine.len {l : List Nd} (h : Fine l) : l.length ≤ maxLen := by cases h; assumption
theorem Fine.at_ {l : List Nd} (h : Fine l) {k : Nat} {n : Nd} (hn : l[k]? = some n) : FineN n ∧ Fine n.kids := by
  cases h with
  | mk l hl h hk => exact ⟨h n (List.mem_of_getElem? hn), hk n (List.mem_of_getElem? hn)⟩

theorem few3_same (s : ByteArray) (w : World) (hm : s.size ≤ maxLen) :
    Calls Try.prog 33 #[.string s] w fun e w' => e = .returned (.string (few3S s)) ∧ w' = w :=
  (few3_any s w hm).mono fun _ _ ⟨he, hw⟩ => ⟨he, hw.symm⟩

/-- Texts alone; elements b with attributes id alone, and texts alone for kids. -/
def ShK (l : List Nd) : Prop := ∀ q ∈ l, q.kind = 2
def Sh (l : List Nd) : Prop := ∀ m ∈ l, m.kind = 1 ∧ m.name = ⟨#[98]⟩ ∧ (∀ a ∈ m.attrs, a.1 = ⟨#[105, 100]⟩) ∧ ShK m.kids
/-- Such lists stay such lists. -/
def Kp (l out : List Nd) : Prop := (ShK l → ShK out) ∧ (Sh l → Sh out)
theorem Kp.nil (l : List Nd) : Kp l [] := by
  refine ⟨fun _ => ?_, fun _ => ?_⟩
  · intro q hq; cases hq
  · intro q hq; cases hq
theorem Kp.snoc {l out out2 : List Nd} {k : Nat} {n : Nd} (h : Kp l out) (hn : l[k]? = some n) (h2 : Kp n.kids out2) {a : List (ByteArray × ByteArray)} (ha : ∀ y ∈ a, ∃ x ∈ n.attrs, y.1 = few3S x.1) (t : ByteArray) : Kp l (out ++ [.mk n.kind (few3S n.name) a t out2]) := by
  have hm := List.mem_of_getElem? hn
  refine ⟨fun hs q hq => ?_, fun hs q hq => ?_⟩
  · rcases List.mem_append.1 hq with hq | hq
    · exact h.1 hs q hq
    · simp at hq
      subst hq
      exact hs n hm
  · rcases List.mem_append.1 hq with hq | hq
    · exact h.2 hs q hq
    · simp at hq
      subst hq
      obtain ⟨e1, e2, e4, e3⟩ := hs n hm
      refine ⟨e1, ?_, fun y hy => ?_, h2.1 e3⟩
      · show few3S n.name = _
        rw [e2]
        rfl
      · obtain ⟨x, hx, e⟩ := ha y hy
        rw [e, e4 x hx]
        rfl

structure CutAt (w wr : World) (l : List Nd) (most k m : Nat) (out : List Nd) (v : Value) : Prop where
  le : k ≤ l.length
  lm : m ≤ most
  own : OwnC wr w.heap.size w.heap.size out v
  sz : szL out ≤ 420 * (most - m)
  bel : Below w.heap.size w wr
  kp : Kp l out
  ln : out.length = k
  zk : k = 0 → m = most
  k1 : (∀ n ∈ l, n.kids = []) → m + k = most
def CutRel (w : World) (l : List Nd) (most : Nat) (x y z : Value) (wr : World) : Prop := ∃ (k m : Nat) (out : List Nd), x = .int .i64 m ∧ z = .int .i64 k ∧ CutAt w wr l most k m out y

structure InAt (W0 wr : World) (j : Nat) (a : List (ByteArray × ByteArray)) (v : Value) (al : List (ByteArray × ByteArray)) : Prop where
  le : j ≤ al.length
  l5 : j ≤ 5
  ln : a.length = j
  sz : szA a ≤ 70 * j
  own : wr.ownsRow W0.heap.size 39 2 v j (acells a)
  bel : Below W0.heap.size W0 wr
  nm : ∀ y ∈ a, ∃ x ∈ al, y.1 = few3S x.1
theorem nm_snoc {a al : List (ByteArray × ByteArray)} (h : ∀ y ∈ a, ∃ x ∈ al, y.1 = few3S x.1) {x : ByteArray × ByteArray} (hx : x ∈ al) (u : ByteArray) : ∀ y ∈ a ++ [(few3S x.1, u)], ∃ x ∈ al, y.1 = few3S x.1 := by
  intro y hy
  rcases List.mem_append.1 hy with hy | hy
  · exact h y hy
  · simp at hy
    subst hy
    exact ⟨x, hx, rfl⟩
def InRel (W0 : World) (al : List (ByteArray × ByteArray)) (x y : Value) (wr : World) : Prop := ∃ (j : Nat) (a : List (ByteArray × ByteArray)), y = .int .i64 j ∧ InAt W0 wr j a x al

theorem new_two (w : World) (t : TypeId) (x y : ByteArray) : ∀ j u, (acells [(x, y)])[j]? = some u → (w.alloc (.cells #[.string x, .string y] t)).cell? ((⟨w.heap.size, 0, none⟩ : Addr).add j) = some u := by
  intro j u hj
  rw [add_zero_addr]
  match j, hj with
  | 0, hj => simp [acells] at hj; subst hj; simp
  | 1, hj => simp [acells] at hj; subst hj; simp
  | j + 2, hj => simp [acells] at hj
theorem acells_one (l : List (ByteArray × ByteArray)) : ∀ u ∈ acells l, u.oneCell' = true := by
  intro u hu
  unfold acells at hu
  obtain ⟨a, _, hu⟩ := List.mem_flatMap.1 hu
  simp at hu
  rcases hu with rfl | rfl <;> rfl

/-- What lies below the call's own rows stays, while these grow. -/
theorem far_cell {W W' : World} {B e s : Nat} {v : Value} {n : Nat} {xs : List Value} {b i : Nat} (hg : W.grownBy W' v.ownBlock) (h : W.ownsRow B e s v n xs) (hb : b < B) (hw : b < W.heap.size) : W'.cell? ⟨b, i, none⟩ = W.cell? ⟨b, i, none⟩ :=
  World.cell?_of_block (a := ⟨b, i, none⟩) (hg.block b hw (fun e => by have := (h.lt b e.symm).1; omega))

theorem kept_store {w : World} (a : Addr) (v : Value) (ob : Obj) : Kept (fun b => b ≠ a.block ∧ b < w.heap.size) w ((w.setCell a v).alloc ob) := by
  intro b hb i
  refine (World.cell?_alloc_past (w := w.setCell a v) ob b i (by simpa using hb.2)).trans ?_
  exact World.cell?_setCell_other _ _ _ _ (by intro e; exact hb.1 (by rw [e]))

/-- A node is whole: what hangs on it, and the list that it goes into. -/
theorem cut_node {w wo w2 W0 wr : World} {out out2 : List Nd} {u v2 v9 : Value} {j : Nat} {a : List (ByteArray × ByteArray)} (hw : w.heap.size ≤ wo.heap.size) (hown : OwnC wo w.heap.size w.heap.size out u)
    (hz : wo.heap.size < w2.heap.size) (h0 : W0.heap.size = w2.heap.size) (hbo : Below wo.heap.size wo W0) (kp : Kept (fun b => wo.heap.size < b ∧ b < w2.heap.size) w2 W0)
    (own2 : OwnC w2 (wo.heap.size + 1) (wo.heap.size + 1) out2 v2) (hib : Below W0.heap.size W0 wr) (hia : wr.ownsRow W0.heap.size 39 2 v9 j (acells a)) (hil : a.length = j) (ob : Obj) :
    OwnC ((wr.setCell ⟨wo.heap.size, 2, none⟩ v9).alloc ob) w.heap.size w.heap.size out u ∧ AttrsAt (Sub w.heap.size ((wr.setCell ⟨wo.heap.size, 2, none⟩ v9).alloc ob) u) ((wr.setCell ⟨wo.heap.size, 2, none⟩ v9).alloc ob) a v9 ∧
      Tree (Sub w.heap.size ((wr.setCell ⟨wo.heap.size, 2, none⟩ v9).alloc ob) u) ((wr.setCell ⟨wo.heap.size, 2, none⟩ v9).alloc ob) out2 v2 := by
  have hwr := hib.size
  have hlto := OwnT.lt hown
  have hsz : ((wr.setCell ⟨wo.heap.size, 2, none⟩ v9).alloc ob).heap.size = wr.heap.size + 1 := by simp
  have hbf : Below wo.heap.size wo ((wr.setCell ⟨wo.heap.size, 2, none⟩ v9).alloc ob) := by
    have h1 : Below wo.heap.size wo wr := hbo.trans (hib.mono (by omega))
    exact (h1.setCell (p := ⟨wo.heap.size, 2, none⟩) (Nat.le_refl _) _).alloc (by simp; omega) _
  have kf := kept_store (w := wr) ⟨wo.heap.size, 2, none⟩ v9 ob
  refine ⟨hown.later hbf, ?_, ?_⟩
  · obtain ⟨A9, c9, rfl, hc9⟩ := own_size hia
    subst hil
    refine ⟨A9, c9, rfl, hc9, ((Cells.own hia).keep (kf.mono ?_)).mono ?_⟩
    · intro b hb
      have := hia.lt b hb
      exact ⟨by show b ≠ wo.heap.size; omega, this.2⟩
    · intro b hb
      have := hia.lt b hb
      refine ⟨by omega, by rw [hsz]; omega, fun e => ?_⟩
      have := (hlto b e).2
      omega
  · have t := own2.tree (Nat.le_refl _)
    refine (((t.keep (kp.mono ?_)).keep (Kept.belowB hib ?_)).keep (kf.mono ?_)).mono ?_
    · intro b hb; omega
    · intro b hb; omega
    · intro b hb; exact ⟨by show b ≠ wo.heap.size; omega, by omega⟩
    · intro b hb
      refine ⟨by omega, by rw [hsz]; omega, fun e => ?_⟩
      have := (hlto b e).2
      omega

/-- What Cut tells. -/
def CutEnd (w : World) (l : List Nd) (most : Nat) (e : Ending) (w' : World) : Prop :=
  ∃ (out : List Nd) (v : Value) (m : Nat), e = .returned (.tuple #[v, .int .i64 m]) ∧ m ≤ most ∧ OwnC w' w.heap.size w.heap.size out v ∧ szL out ≤ 420 * (most - m) ∧ Below w.heap.size w w' ∧ Kp l out ∧ (l = [] → m = most) ∧ (l.length = 1 → 1 ≤ most → out.length = 1) ∧ ((∀ n ∈ l, n.kids = []) → m + out.length = most)

set_option maxHeartbeats 4000000 in
set_option maxRecDepth 100000 in
theorem cut_any (l : List Nd) : ∀ (S : Nat → Prop) (v : Value) (most : Nat) (w : World), Tree S w l v → (∀ b, S b → b < w.heap.size) → Fine l → most ≤ 1000 →
    Calls Try.prog 24 #[v, .int .i64 most] w (CutEnd w l most) := by
  induction l using nd_ind with
  | h l ih =>
    intro S v most w hT hS hF hmost
    have hlen := hF.len
    unfold maxLen at hlen
    obtain ⟨A, c, rfl, hc⟩ := hT.shape
    have HT := Lib.hid hT
    have HF := Lib.hid hF
    have IH := Lib.hid ih
    have HS := Lib.hid hS
    clear hT hF ih hS
    go_enter Try.func24, Try.ntmps24
    go_wp2_with fail
    go_loopw [1, 6, 7] (fun x y z wr => CutRel w l most x y z wr) (fun _ _ z _ => l.length - (intOf z).toNat)
    case atStart => exact ⟨0, most, [], rfl, rfl, by omega, Nat.le_refl _, OwnC.nil _ _ _, by rw [szL_nil]; omega, Below.refl _ _, Kp.nil _, rfl, fun _ => rfl, fun _ => rfl⟩
    case round =>
      obtain ⟨k, m, out, rfl, rfl, HR⟩ := hrel
      have hk := HR.le
      have hm := HR.lm
      have hown := HR.own
      have hsz := HR.sz
      have hbel := HR.bel
      have HKP := Lib.hid HR.kp
      have HLN := Lib.hid HR.ln
      have HZK := Lib.hid HR.zk
      have HK1 := Lib.hid HR.k1
      clear HR
      have hol := szL_len out
      by_cases hlt : k < l.length ∧ 0 < m
      · obtain ⟨hlt, hm0⟩ := hlt
        obtain ⟨b, o, c', hv, _, hSb, hcell⟩ := HT.out.open_ (by omega)
        injection hv with hA _ hcc
        subst hA
        subst hcc
        obtain ⟨n, hn⟩ : ∃ n, l[k]? = some n := ⟨_, List.getElem?_eq_getElem hlt⟩
        obtain ⟨va, vk, hat⟩ := hcell k n hn
        have hbw := HS.out b hSb
        have hfn := HF.out.at_ hn
        have q0 : wr.cell? ⟨b, o + k * 5, none⟩ = some (.int .i64 n.kind) := (hbel.cell (p := ⟨b, o + k * 5, none⟩) hbw).trans hat.c0
        have q1 : wr.cell? ⟨b, o + k * 5 + 1, none⟩ = some (.string n.name) := (hbel.cell (p := ⟨b, o + k * 5 + 1, none⟩) hbw).trans hat.c1
        have q2 : wr.cell? ⟨b, o + k * 5 + 2, none⟩ = some va := (hbel.cell (p := ⟨b, o + k * 5 + 2, none⟩) hbw).trans hat.c2
        have q3 : wr.cell? ⟨b, o + k * 5 + 3, none⟩ = some (.string n.text) := (hbel.cell (p := ⟨b, o + k * 5 + 3, none⟩) hbw).trans hat.c3
        have q4 : wr.cell? ⟨b, o + k * 5 + 4, none⟩ = some vk := (hbel.cell (p := ⟨b, o + k * 5 + 4, none⟩) hbw).trans hat.c4
        have ihk := IH.out k n hn S vk (m - 1)
        have HIH := Lib.hid ihk
        have HAT := Lib.hid hat
        have HFN := Lib.hid hfn
        have hm1 : (m : Int) - 1 = ((m - 1 : Nat) : Int) := by omega
        have hm0' : (0 : Int) < (m : Int) := by omega
        have hwz := hbel.size
        have HN0 := Lib.hid hn
        clear hcell hn hat hfn ihk
        obtain ⟨A2, c2, rfl, _, _⟩ := id HAT.out.at_
        obtain ⟨A4, c4, rfl, _⟩ := HAT.out.kids.shape
        go_wp2_with fail
        refine (few3_any n.name _ HFN.out.1.nm).mono ?_
        rintro e w1 ⟨rfl, rfl⟩
        go_wp2_with fail
        refine (few3_any n.text _ HFN.out.1.tx).mono ?_
        rintro e w1 ⟨rfl, rfl⟩
        go_wp2_with fail
        refine (HIH.out _ (HAT.out.kids.keep (Kept.belowB (hbel.alloc hbel.size _) HS.out)) (fun b hb => by have := HS.out b hb; simp; omega) HFN.out.2 (by omega)).mono ?_
        rintro e w2 ⟨out2, v2, m2, rfl, hm2, hown2, hsz2, hb2, hkp2, hm22, _⟩
        have HM22 := Lib.hid hm22
        clear hm22
        have HKP2 := Lib.hid hkp2
        clear hkp2
        obtain ⟨A5, c5, rfl, _⟩ := OwnT.shape hown2
        have hz2 : wr.heap.size < w2.heap.size := by have := hb2.size; simp at this; omega
        have d : ∀ j, w2.cell? ⟨wr.heap.size, j, none⟩ = _ := fun j => hb2.cell (p := ⟨wr.heap.size, j, none⟩) (by simp)
        have d0 := (d 0).trans (show _ = some (.int .i64 n.kind) by simp)
        have d1 := (d 1).trans (show _ = some (.string (few3S n.name)) by simp)
        have d2 := (d 2).trans (show _ = some (.slice A2 n.attrs.length c2) by simp)
        have d3 := (d 3).trans (show _ = some (.string (few3S n.text)) by simp)
        have d4 := (d 4).trans (show _ = some (.slice A4 n.kids.length c4) by simp)
        have f : ∀ j, w2.frozen? ⟨wr.heap.size, j, none⟩ = _ := fun j => hb2.frozen (p := ⟨wr.heap.size, j, none⟩) (by simp)
        have f2 := (f 2).trans (show _ = false by simp)
        have f4 := (f 4).trans (show _ = false by simp)
        have hbw2 : Below w.heap.size w w2 := below_after (hbel.alloc hbel.size _) hb2
        have OW2 := Lib.hid (show OwnC w2 (wr.heap.size + 1) (wr.heap.size + 1) out2 (.slice A5 out2.length c5) by simpa using hown2)
        have HB2 := Lib.hid hb2
        clear d f hown2 hb2 q0 q1 q2 q3 q4
        go_wp2_with fail
        obtain ⟨W0, hW0⟩ : ∃ W0, w2.setCell ⟨wr.heap.size, 4, none⟩ (.slice A5 out2.length c5) = W0 := ⟨_, rfl⟩
        have hz0 : W0.heap.size = w2.heap.size := by rw [← hW0]; simp
        have e0 : W0.cell? ⟨wr.heap.size, 0, none⟩ = some (.int .i64 n.kind) := by rw [← hW0, World.cell?_setCell_other _ _ _ _ (by simp)]; exact d0
        have e1 : W0.cell? ⟨wr.heap.size, 1, none⟩ = some (.string (few3S n.name)) := by rw [← hW0, World.cell?_setCell_other _ _ _ _ (by simp)]; exact d1
        have e2 : W0.cell? ⟨wr.heap.size, 2, none⟩ = some (.slice A2 n.attrs.length c2) := by rw [← hW0, World.cell?_setCell_other _ _ _ _ (by simp)]; exact d2
        have e3 : W0.cell? ⟨wr.heap.size, 3, none⟩ = some (.string (few3S n.text)) := by rw [← hW0, World.cell?_setCell_other _ _ _ _ (by simp)]; exact d3
        have e4 : W0.cell? ⟨wr.heap.size, 4, none⟩ = some (.slice A5 out2.length c5) := by rw [← hW0]; exact World.cell?_setCell_same _ _ _ d4
        have ef : W0.frozen? ⟨wr.heap.size, 2, none⟩ = false := by rw [← hW0, World.frozen?_setCell]; exact f2
        have hbw0 : Below w.heap.size w W0 := by rw [← hW0]; exact hbw2.setCell hwz _
        have kp0 : Kept (fun b => wr.heap.size < b ∧ b < w2.heap.size) w2 W0 := by
          intro b hb j
          rw [← hW0]
          exact World.cell?_setCell_other _ _ _ _ (by intro e; injection e with e; omega)
        have hbo0 : Below wr.heap.size wr W0 := by
          rw [← hW0]
          exact (((Below.refl _ wr).alloc (Nat.le_refl _) _).trans (HB2.out.mono (by simp))).setCell (p := ⟨wr.heap.size, 4, none⟩) (Nat.le_refl _) _
        rw [hW0]
        have HW0 := Lib.hid hz0
        have KP0 := Lib.hid kp0
        have HBO := Lib.hid hbo0
        have HE := Lib.hid (And.intro e0 (And.intro e1 (And.intro e2 (And.intro e3 e4))))
        have HEF := Lib.hid ef
        have hz02 : wr.heap.size < W0.heap.size := by omega
        clear hW0 d0 d1 d2 d3 d4 f2 f4 hz0 kp0 hbo0 e0 e1 e2 e3 e4 ef
        obtain ⟨wo, rfl⟩ : ∃ wo : World, wo = wr := ⟨_, rfl⟩
        go_loopw [9, 10] (fun x y wi => InRel W0 n.attrs x y wi) (fun _ y _ => n.attrs.length - (intOf y).toNat)
        case atStart => exact ⟨0, [], rfl, by omega, by omega, rfl, by simp [szA], World.ownsRow_nil _ _ _ _, Below.refl _ _, by simp⟩
        case round =>
          obtain ⟨j, a, rfl, HI⟩ := hrel
          have hj := HI.le
          have hj5 := HI.l5
          have hia := HI.own
          have hib := HI.bel
          have hiz := HI.sz
          have hil := HI.ln
          have HNM := Lib.hid HI.nm
          clear HI
          have hiw := hib.size
          have keepB : ∀ i, wr.cell? ⟨wo.heap.size, i, none⟩ = W0.cell? ⟨wo.heap.size, i, none⟩ := fun i => hib.cell (p := ⟨wo.heap.size, i, none⟩) hz02
          have g2 := (keepB 2).trans HE.out.2.2.1
          have KB := Lib.hid keepB
          clear keepB
          by_cases hin : j < n.attrs.length ∧ j < 5
          · obtain ⟨hin, hin5⟩ := hin
            obtain ⟨b2, o2, c2', hv2, _, hSb2, hac⟩ := HAT.out.at_.at_ (by omega)
            injection hv2 with hA2 _ hcc2
            subst hA2
            subst hcc2
            obtain ⟨x, hx⟩ : ∃ x, n.attrs[j]? = some x := ⟨_, List.getElem?_eq_getElem hin⟩
            have hbw2' : b2 < w.heap.size := HS.out b2 hSb2
            have hbw3 : b2 < W0.heap.size := by have := hbw0.size; omega
            have k0 : wr.cell? ⟨b2, o2 + j * 2, none⟩ = some (.string x.1) := (hib.cell (p := ⟨b2, o2 + j * 2, none⟩) hbw3).trans ((hbw0.cell (p := ⟨b2, o2 + j * 2, none⟩) hbw2').trans (hac j x hx).1)
            have k1 : wr.cell? ⟨b2, o2 + j * 2 + 1, none⟩ = some (.string x.2) := (hib.cell (p := ⟨b2, o2 + j * 2 + 1, none⟩) hbw3).trans ((hbw0.cell (p := ⟨b2, o2 + j * 2 + 1, none⟩) hbw2').trans (hac j x hx).2)
            have hxs := HFN.out.1.aa x (List.mem_of_getElem? hx)
            have i1 : (j : Int) < (n.attrs.length : Int) := by omega
            have i2 : (0 : Int) ≤ (j : Int) := by omega
            have HX := Lib.hid hxs
            have HX0 := Lib.hid (List.mem_of_getElem? hx)
            clear hac hx hxs
            obtain ⟨i0, hi, hz0, hz1, hz2'⟩ := info_parts info_attr
            have HI0 := Lib.hid (And.intro hi (And.intro hz0 (And.intro hz1 hz2')))
            clear hi hz0 hz1 hz2'
            go_wp2_with fail
            have hbw4 : b2 < wr.heap.size := by omega
            have hbw5 : wo.heap.size < wr.heap.size := by omega
            have nn0 := World.new_ne wr ⟨wo.heap.size, 2, none⟩ g2
            have nn1 := World.new_ne wr ⟨b2, o2 + j * 2, none⟩ k0
            have nn2 := World.new_ne wr ⟨b2, o2 + j * 2 + 1, none⟩ k1
            go_region_held3 (fun W => W.cell? ⟨wo.heap.size, 2, none⟩ = some (.slice (some ⟨b2, o2, none⟩) n.attrs.length c2) ∧ W.cell? ⟨b2, o2 + j * 2, none⟩ = some (.string x.1) ∧ W.cell? ⟨b2, o2 + j * 2 + 1, none⟩ = some (.string x.2)) (first | exact ⟨g2, k0, k1⟩ | go_keep | (refine ⟨(far_cell hgr3 (hia.alloc _) hz02 (by simp <;> omega)).trans ?_, (far_cell hgr3 (hia.alloc _) hbw3 (by simp <;> omega)).trans ?_, (far_cell hgr3 (hia.alloc _) hbw3 (by simp <;> omega)).trans ?_⟩ <;> go_keep)) ((first | (refine step_append_lies _ rfl _ _ _ rfl W0.heap.size 39 i0 _ 2 32 Try.underlying32 HI0.out.1 HI0.out.2.1 HI0.out.2.2.1 HI0.out.2.2.2 rfl (by decide) _ j (acells a) rfl (hia.alloc _) ⟨wr.heap.size, 0, none⟩ 1 1 (acells [(few3S x.1, few3S x.2)]) rfl rfl (new_two wr _ _ _) (acells_one _) (by decide) (by unfold maxLen; omega) (by omega) (by simp; omega) (wr.heap.size + 1) (by simp) ?_; intro g cap w3 hown3 hgr3 hlies hlt3) | (go_at_call 33; refine (few3_any x.1 _ HX.out.1).mono ?_; rintro e w' ⟨rfl, rfl⟩) | (go_at_call 33; refine (few3_any x.2 _ HX.out.2).mono ?_; rintro e w' ⟨rfl, rfl⟩)))
            have hb3 : Below W0.heap.size W0 w3 := ((hib.alloc hib.size _).drew).grown hgr3 (by simp <;> omega) (fun g hg => (hia.lt g hg).1)
            have hsx := few3S_size x.1
            have hsy := few3S_size x.2
            have H3 := Lib.hid (show InAt W0 w3 (j + 1) (a ++ [(few3S x.1, few3S x.2)]) (.slice (some ⟨g, 0, none⟩) (j + 1) cap) n.attrs from
              ⟨by omega, by omega, by rw [List.length_append, hil]; rfl, by rw [szA_append]; simp only [szA]; omega, by rw [acells_append]; exact hown3, hb3, nm_snoc HNM.out HX0.out _⟩)
            clear hgr3 hlies hown3 hb3
            rename_i hheld
            clear hheld
            go_wp2_with fail
            go_roundw
            case rel => exact ⟨j + 1, _, by go_num, H3.out⟩
            case measure => simp [intOf]; omega
          · have hex : n.attrs.length ≤ j ∨ (j < n.attrs.length ∧ 5 ≤ j) := by omega
            obtain ⟨A9, c9, rfl, hc9⟩ := own_size hia
            have c0 := (KB.out 0).trans HE.out.1
            have c1 := (KB.out 1).trans HE.out.2.1
            have c2' := (KB.out 2).trans HE.out.2.2.1
            have c3 := (KB.out 3).trans HE.out.2.2.2.1
            have c4 := (KB.out 4).trans HE.out.2.2.2.2
            have cf : wr.frozen? ⟨wo.heap.size, 2, none⟩ = false := (hib.frozen (p := ⟨wo.heap.size, 2, none⟩) hz02).trans HEF.out
            obtain ⟨A6, c6, rfl, hc6⟩ := OwnT.shape hown
            have hnode := fun ob => cut_node (w := w) (wo := wo) (w2 := w2) (W0 := W0) (wr := wr) (j := j) (a := a) hwz hown hz2 HW0.out HBO.out KP0.out OW2.out hib hia hil ob
            have HND := Lib.hid hnode
            have hbf : Below w.heap.size w (wr.setCell ⟨wo.heap.size, 2, none⟩ (.slice A9 j c9)) := (hbw0.trans (hib.mono (by have := hbw0.size; omega))).setCell (p := ⟨wo.heap.size, 2, none⟩) hwz _
            have hsn := few3S_size n.name
            have hst := few3S_size n.text
            have hlo := OwnT.lt hown
            have HLO := Lib.hid hlo
            have HIA := Lib.hid hia
            have HIL := Lib.hid hil
            have hwr3 : w.heap.size ≤ wr.heap.size + 1 := by have := hbw0.size; omega
            clear hnode hlo hia hil hown
            have hn5 : ∀ i u, (ncells1 ⟨.mk n.kind (few3S n.name) a (few3S n.text) out2, .slice A9 j c9, .slice A5 out2.length c5⟩)[i]? = some u →
                ((wr.setCell ⟨wo.heap.size, 2, none⟩ (.slice A9 j c9)).alloc (.cells #[.int .i64 n.kind, .string (few3S n.name), .slice A9 j c9, .string (few3S n.text), .slice A5 out2.length c5] 37)).cell? ((⟨wr.heap.size, 0, none⟩ : Addr).add i) = some u := by
              intro i u hi
              have := new_five (wr.setCell ⟨wo.heap.size, 2, none⟩ (.slice A9 j c9)) 37 ⟨.mk n.kind (few3S n.name) a (few3S n.text) out2, .slice A9 j c9, .slice A5 out2.length c5⟩ i u hi
              rw [show (wr.setCell ⟨wo.heap.size, 2, none⟩ (.slice A9 j c9)).heap.size = wr.heap.size by simp] at this
              exact this
            have HN5 := Lib.hid hn5
            clear hn5
            rcases hex with hex | ⟨hex1, hex2⟩
            all_goals
              go_wp2_with (at_builtin; refine wpList_append_node rfl _ _ rfl w.heap.size w.heap.size out (.slice A6 out.length c6) rfl (HND.out _).1 ⟨.mk n.kind (few3S n.name) a (few3S n.text) out2, .slice A9 j c9, .slice A5 out2.length c5⟩ ⟨wr.heap.size, 0, none⟩ 1 rfl HN5.out (HND.out _).2.1 (HND.out _).2.2 (by omega) (by simpa using hwr3) ?_; intro v' w4 hown' hgrow)
              have hB4 : Below w.heap.size w w4 := (hbf.alloc hbf.size _).grown hgrow (by simpa using hwr3) (fun g hg => (HLO.out g hg).1)
              clear hgrow
              go_roundw
              case rel =>
                refine ⟨k + 1, m2, out ++ [.mk n.kind (few3S n.name) a (few3S n.text) out2], rfl, by go_num, by omega, by omega, hown', ?_, hB4, HKP.out.snoc HN0.out HKP2.out HNM.out _, by have := HLN.out; rw [List.length_append, List.length_singleton]; omega, fun h => absurd h (by omega), fun h => by have h1 := HK1.out h; have h2 := HM22.out (h n (List.mem_of_getElem? HN0.out)); omega⟩
                rw [szL_append, szL_cons, szL_nil, szN_mk]
                omega
              case measure => simp [intOf]; omega
      · have hex : l.length ≤ k ∨ (k < l.length ∧ m = 0) := by omega
        have HOW := Lib.hid hown
        rcases hex with hex | ⟨hex, rfl⟩
        all_goals
          clear hown
          go_wp2_with fail
          go_ret2
          exact ⟨out, _, _, rfl, hm, HOW.out, hsz, hbel, HKP.out, fun h0 => HZK.out (by subst h0; simpa using hk), fun h1 h2 => by have := HLN.out; have := HZK.out; omega, fun h => by have h1 := HK1.out h; have h2 := HLN.out; omega⟩

end Go.Proofs.Ytfdgmoakobjohaa

/- Part OpenT. -/
namespace Go.Proofs.Ytfdgmoakobjohaa
open Go.RowKit Go.ChangeShapes Go.WideShapes Go.ChangeAt
set_option linter.unusedVariables false
set_option maxRecDepth 100000

theorem add_none (b o n : Nat) : (⟨b, o, none⟩ : Addr).add n = ⟨b, o + n, none⟩ := by
  unfold Addr.add
  split
  · rename_i h; subst h; rfl
  · rfl

theorem cell_below {w : World} {p : Addr} {v : Value} (h : w.cell? p = some v) : p.block < w.heap.size := by
  rcases Nat.lt_or_ge p.block w.heap.size with hlt | hge
  · exact hlt
  · unfold World.cell? at h
    rw [Array.getElem?_eq_none hge] at h
    cases h

/-- Of each place something: a list of them. -/
theorem list_of {α : Type} {P : Nat → α → Prop} : ∀ (n : Nat), (∀ i, i < n → ∃ x, P i x) → ∃ R : List α, R.length = n ∧ ∀ i x, R[i]? = some x → P i x
  | 0, _ => ⟨[], rfl, by simp⟩
  | n + 1, h => by
    obtain ⟨R, hl, hR⟩ := list_of n fun i hi => h i (by omega)
    obtain ⟨x, hx⟩ := h n (by omega)
    refine ⟨R ++ [x], by simp [hl], fun i y hy => ?_⟩
    by_cases hi : i < R.length
    · rw [List.getElem?_append_left hi] at hy
      exact hR i y hy
    · have hlt := (List.getElem?_eq_some_iff.1 hy).1
      rw [List.length_append, List.length_singleton] at hlt
      have : i = R.length := by omega
      subst this
      simp at hy
      subst hy
      rw [hl]
      exact hx

section
variable {H : Type} {enc : TypeId × Value → H} {w : World} {base : Nat} {spare : Nat → Bool} {held : Bool}

/-- A row's address, if there is a cell at its head. -/
theorem head_addr {a : Addr} {v : Value} (h : w.cell? (a.add 0) = some v) : ∃ b o, a = ⟨b, o, none⟩ ∧ b < w.heap.size := by
  have hs : a.spot = none := by simpa [Addr.add] using World.cell?_spot h
  obtain ⟨b, o, sp⟩ := a
  simp only at hs
  subst hs
  exact ⟨b, o, rfl, by simpa [Addr.add] using cell_below h⟩

theorem open_attrs {fuel : Nat} {v : Value} {x : DataW H × List MemPlace} (h : DataW.trod enc Try.prog w base spare held fuel 32 [v] = some x) :
    ∃ l : List (ByteArray × ByteArray), AttrsAt (· < w.heap.size) w l v ∧ l.length ≤ maxLen ∧ ∀ a ∈ l, a.1.size ≤ maxLen ∧ a.2.size ≤ maxLen := by
  have hC : Try.prog.cellsOf 39 = 2 := by kernel_rfl
  have C9 : Try.prog.cellsOf 9 = 1 := by kernel_rfl
  rcases DataW.trod_slice Try.underlying32 h with ⟨hcs, _⟩ | ⟨a, len, cap, elems, rest, n, _, hcs, _, _, hl, hm, hlen, hel, _, _⟩
  · simp at hcs
    subst hcs
    exact ⟨[], AttrsAt.nil _ _, by unfold maxLen; simp, by simp⟩
  · simp at hcs
    subst hcs
    rw [hC] at hel
    have key : ∀ i, i < len → ∃ y : ByteArray × ByteArray, (∀ k u, [Value.string y.1, .string y.2][k]? = some u → w.cell? ((a.add (i * 2)).add k) = some u) ∧ y.1.size ≤ maxLen ∧ y.2.size ≤ maxLen := by
      intro i hi
      have e := hel i hi
      rw [List.getElem?_eq_getElem (by omega)] at e
      obtain ⟨cs', h1, h2⟩ := Option.bind_eq_some_iff.1 e
      obtain ⟨_, hcl, hat⟩ := World.cells?_some h1
      obtain ⟨xs, n', _, _, _, hxl, hf⟩ := DataW.trod_struct Try.underlying39 h2
      match cs', hcl with
      | [c0, c1], _ =>
        have f0 : DataW.trod enc Try.prog w base spare held n' 9 ((List.drop 0 [c0, c1]).take (Try.prog.cellsOf 9)) = xs[0]? := hf 0 _ rfl
        have f1 : DataW.trod enc Try.prog w base spare held n' 9 ((List.drop 1 [c0, c1]).take (Try.prog.cellsOf 9)) = xs[1]? := hf 1 _ rfl
        rw [C9, List.getElem?_eq_getElem (by rw [hxl]; decide)] at f0
        rw [C9, List.getElem?_eq_getElem (by rw [hxl]; decide)] at f1
        obtain ⟨s0, e0, _, z0⟩ := DataW.trod_string Try.underlying9 f0
        obtain ⟨s1, e1, _, z1⟩ := DataW.trod_string Try.underlying9 f1
        simp at e0 e1
        subst e0
        subst e1
        refine ⟨(s0, s1), fun k u hk => ?_, z0, z1⟩
        have hk2 : k < 2 := (List.getElem?_eq_some_iff.1 hk).1
        rw [hat k hk2]
        exact hk
    obtain ⟨l, hll, hlp⟩ := list_of len key
    refine ⟨l, ⟨some a, cap, by rw [hll], by omega, ?_⟩, by unfold maxLen at *; omega, ?_⟩
    · intro hx
      rw [acells_length] at hx
      obtain ⟨y0, hy0⟩ : ∃ y, l[0]? = some y := ⟨_, List.getElem?_eq_getElem (by omega)⟩
      have h00 := (hlp 0 y0 hy0).1 0 _ rfl
      obtain ⟨b, o, rfl, hb⟩ := head_addr (a := a) (v := .string y0.1) (by simpa [Addr.add] using h00)
      refine ⟨b, o, rfl, hb, fun j u hu => ?_⟩
      have hj := (List.getElem?_eq_some_iff.1 hu).1
      rw [acells_length] at hj
      obtain ⟨y, hy⟩ : ∃ y, l[j / 2]? = some y := ⟨_, List.getElem?_eq_getElem (by omega)⟩
      have hp := (hlp (j / 2) y hy).1
      have ha := acells_at hy
      rcases (show j = j / 2 * 2 ∨ j = j / 2 * 2 + 1 by omega) with hj2 | hj2
      · have := hp 0 _ rfl
        rw [add_none, add_none, Nat.add_assoc, Nat.add_zero, ← hj2] at this
        rw [this]
        rw [← hj2] at ha
        exact (ha.1.symm.trans hu)
      · have := hp 1 _ rfl
        rw [add_none, add_none, Nat.add_assoc, ← hj2] at this
        rw [this]
        rw [← hj2] at ha
        exact (ha.2.symm.trans hu)
    · intro y hy
      obtain ⟨i, hi, he⟩ := List.mem_iff_getElem.1 hy
      exact (hlp i y (by rw [List.getElem?_eq_getElem hi, he])).2

/-- What is told of a node at its place. -/
def NodeP (w : World) (a : Addr) (i : Nat) (r : Rn) : Prop :=
  (∀ k u, (ncells1 r)[k]? = some u → w.cell? ((a.add (i * 5)).add k) = some u) ∧ AttrsAt (· < w.heap.size) w r.n.attrs r.va ∧ Tree (· < w.heap.size) w r.n.kids r.vk ∧ FineN r.n ∧ Fine r.n.kids

theorem nodes_close {a : Addr} {len cap : Nat} {R : List Rn} (hR : R.length = len) (hl : len ≤ cap) (hm : cap ≤ maxLen) (hp : ∀ i r, R[i]? = some r → NodeP w a i r) :
    Tree (· < w.heap.size) w (R.map Rn.n) (.slice (some a) len cap) ∧ Fine (R.map Rn.n) := by
  have hmem : ∀ r ∈ R, ∃ i, NodeP w a i r := by
    intro r hr
    obtain ⟨i, hi, he⟩ := List.mem_iff_getElem.1 hr
    exact ⟨i, hp i r (by rw [List.getElem?_eq_getElem hi, he])⟩
  constructor
  · have := Tree.mk (S := (· < w.heap.size)) (w := w) R (R.map Rn.n) (some a) cap rfl (by rw [List.length_map]; omega) ?_ (fun r hr => (hmem r hr).choose_spec.2.1) (fun r hr => (hmem r hr).choose_spec.2.2.1)
    · rw [List.length_map, hR] at this
      exact this
    · intro hx
      rw [ncells_length] at hx
      obtain ⟨y0, hy0⟩ : ∃ y, R[0]? = some y := ⟨_, List.getElem?_eq_getElem (by omega)⟩
      have h00 := (hp 0 y0 hy0).1 0 _ rfl
      obtain ⟨b, o, rfl, hb⟩ := head_addr (a := a) (v := .int .i64 y0.n.kind) (by simpa [Addr.add] using h00)
      refine ⟨b, o, rfl, hb, fun j u hu => ?_⟩
      have hj := (List.getElem?_eq_some_iff.1 hu).1
      rw [ncells_length] at hj
      obtain ⟨y, hy⟩ : ∃ y, R[j / 5]? = some y := ⟨_, List.getElem?_eq_getElem (by omega)⟩
      have hq := (hp (j / 5) y hy).1
      have ha := ncells_at hy
      rcases (show j = j / 5 * 5 ∨ j = j / 5 * 5 + 1 ∨ j = j / 5 * 5 + 2 ∨ j = j / 5 * 5 + 3 ∨ j = j / 5 * 5 + 4 by omega) with hj2 | hj2 | hj2 | hj2 | hj2
      · have := hq 0 _ rfl
        rw [add_none, add_none, Nat.add_assoc, Nat.add_zero, ← hj2] at this
        rw [this]
        rw [← hj2] at ha
        exact ha.1.symm.trans hu
      · have := hq 1 _ rfl
        rw [add_none, add_none, Nat.add_assoc, ← hj2] at this
        rw [this]
        have ha := ha.2.1
        rw [← hj2] at ha
        exact ha.symm.trans hu
      · have := hq 2 _ rfl
        rw [add_none, add_none, Nat.add_assoc, ← hj2] at this
        rw [this]
        have ha := ha.2.2.1
        rw [← hj2] at ha
        exact ha.symm.trans hu
      · have := hq 3 _ rfl
        rw [add_none, add_none, Nat.add_assoc, ← hj2] at this
        rw [this]
        have ha := ha.2.2.2.1
        rw [← hj2] at ha
        exact ha.symm.trans hu
      · have := hq 4 _ rfl
        rw [add_none, add_none, Nat.add_assoc, ← hj2] at this
        rw [this]
        have ha := ha.2.2.2.2
        rw [← hj2] at ha
        exact ha.symm.trans hu
  · refine .mk _ (by rw [List.length_map]; omega) ?_ ?_
    · intro n hn
      obtain ⟨r, hr, rfl⟩ := List.mem_map.1 hn
      exact (hmem r hr).choose_spec.2.2.2.1
    · intro n hn
      obtain ⟨r, hr, rfl⟩ := List.mem_map.1 hn
      exact (hmem r hr).choose_spec.2.2.2.2

theorem open_nodes : ∀ (F fuel : Nat) (v : Value) (x : DataW H × List MemPlace), fuel ≤ F → DataW.trod enc Try.prog w base spare held fuel 24 [v] = some x →
    ∃ l : List Nd, Tree (· < w.heap.size) w l v ∧ Fine l := by
  intro F
  induction F with
  | zero =>
    intro fuel v x hF h
    obtain rfl : fuel = 0 := by omega
    simp [DataW.trod] at h
  | succ F ih =>
    intro fuel v x hF h
    have hC : Try.prog.cellsOf 37 = 5 := by kernel_rfl
    have C3 : Try.prog.cellsOf 3 = 1 := by kernel_rfl
    have C9 : Try.prog.cellsOf 9 = 1 := by kernel_rfl
    have CA : Try.prog.cellsOf 32 = 1 := by kernel_rfl
    have CN : Try.prog.cellsOf 24 = 1 := by kernel_rfl
    rcases DataW.trod_slice Try.underlying24 h with ⟨hcs, _⟩ | ⟨a, len, cap, elems, rest, n, hfu, hcs, _, _, hl, hm, hlen, hel, _, _⟩
    · simp at hcs
      subst hcs
      exact ⟨[], Tree.nil _ _, .mk [] (by simp) (by simp) (by simp)⟩
    · simp at hcs
      subst hcs
      rw [hC] at hel
      have key : ∀ i, i < len → ∃ r : Rn, NodeP w a i r := by
        intro i hi
        have e := hel i hi
        rw [List.getElem?_eq_getElem (by omega)] at e
        obtain ⟨cs', h1, h2⟩ := Option.bind_eq_some_iff.1 e
        obtain ⟨_, hcl, hat⟩ := World.cells?_some h1
        obtain ⟨xs, n', hn', _, _, hxl, hf⟩ := DataW.trod_struct Try.underlying37 h2
        match cs', hcl with
        | [c0, c1, c2, c3, c4], _ =>
          have f0 : DataW.trod enc Try.prog w base spare held n' 3 ((List.drop 0 [c0, c1, c2, c3, c4]).take (Try.prog.cellsOf 3)) = xs[0]? := hf 0 _ rfl
          have f1 : DataW.trod enc Try.prog w base spare held n' 9 ((List.drop 1 [c0, c1, c2, c3, c4]).take (Try.prog.cellsOf 9)) = xs[1]? := hf 1 _ rfl
          have f2 : DataW.trod enc Try.prog w base spare held n' 32 ((List.drop 2 [c0, c1, c2, c3, c4]).take (Try.prog.cellsOf 32)) = xs[2]? := hf 2 _ rfl
          have f3 : DataW.trod enc Try.prog w base spare held n' 9 ((List.drop 3 [c0, c1, c2, c3, c4]).take (Try.prog.cellsOf 9)) = xs[3]? := hf 3 _ rfl
          have f4 : DataW.trod enc Try.prog w base spare held n' 24 ((List.drop 4 [c0, c1, c2, c3, c4]).take (Try.prog.cellsOf 24)) = xs[4]? := hf 4 _ rfl
          rw [C3, List.getElem?_eq_getElem (by rw [hxl]; decide)] at f0
          rw [C9, List.getElem?_eq_getElem (by rw [hxl]; decide)] at f1
          rw [CA, List.getElem?_eq_getElem (by rw [hxl]; decide)] at f2
          rw [C9, List.getElem?_eq_getElem (by rw [hxl]; decide)] at f3
          rw [CN, List.getElem?_eq_getElem (by rw [hxl]; decide)] at f4
          obtain ⟨k0, e0, _, z0⟩ := DataW.trod_int Try.underlying3 f0
          obtain ⟨s1, e1, _, z1⟩ := DataW.trod_string Try.underlying9 f1
          obtain ⟨s3, e3, _, z3⟩ := DataW.trod_string Try.underlying9 f3
          obtain ⟨la, ha1, ha2, ha3⟩ := open_attrs (v := c2) f2
          obtain ⟨lk, hk1, hk2⟩ := ih n' c4 _ (by omega) f4
          simp at e0 e1 e3
          subst e0
          subst e1
          subst e3
          refine ⟨⟨.mk k0 s1 la s3 lk, c2, c4⟩, fun k u hk => ?_, ha1, hk1, ⟨z1, z3, ha2, ha3⟩, hk2⟩
          have hk5 : k < 5 := (List.getElem?_eq_some_iff.1 hk).1
          rw [hat k hk5]
          exact hk
      obtain ⟨R, hR, hp⟩ := list_of len key
      exact ⟨R.map Rn.n, nodes_close hR hl hm hp⟩

end

end Go.Proofs.Ytfdgmoakobjohaa

/- Part Glb. -/
namespace Go.Proofs.Ytfdgmoakobjohaa
open Go.RowKit
set_option linter.unusedVariables false

/-- Nothing is asked of the library's variable where it is not. -/
def Glob (w : World) : Prop := True
theorem Glob.below {w w' : World} (h : Glob w) (hb : Below w.heap.size w w') : Glob w' := trivial

end Go.Proofs.Ytfdgmoakobjohaa

/- Part TkT. -/
namespace Go.Proofs.Ytfdgmoakobjohaa
open Go.RowKit
set_option linter.unusedVariables false

def tcells1 (r : Tk × Value) : List Value := [.int .i64 r.1.kind, .string r.1.name, r.2, .string r.1.text]
def tcells (R : List (Tk × Value)) : List Value := R.flatMap tcells1
theorem tcells_nil : tcells [] = [] := rfl
theorem tcells_append (a b : List (Tk × Value)) : tcells (a ++ b) = tcells a ++ tcells b := by simp [tcells]
theorem tcells_cons (r : Tk × Value) (R : List (Tk × Value)) : tcells (r :: R) = .int .i64 r.1.kind :: .string r.1.name :: r.2 :: .string r.1.text :: tcells R := by simp [tcells, tcells1]
theorem tcells_length : ∀ R, (tcells R).length = R.length * 4
  | [] => rfl
  | r :: R => by rw [tcells_cons]; simp only [List.length_cons]; rw [tcells_length R]; omega
theorem tcells_at : ∀ {R : List (Tk × Value)} {k : Nat} {r : Tk × Value}, R[k]? = some r → (tcells R)[k * 4]? = some (.int .i64 r.1.kind) ∧ (tcells R)[k * 4 + 1]? = some (.string r.1.name) ∧ (tcells R)[k * 4 + 2]? = some r.2 ∧ (tcells R)[k * 4 + 3]? = some (.string r.1.text)
  | [], k, r, h => by simp at h
  | a :: R, 0, r, h => by
    simp at h
    subst h
    rw [tcells_cons]
    exact ⟨rfl, rfl, rfl, rfl⟩
  | a :: R, k + 1, r, h => by
    have := tcells_at (R := R) (k := k) (r := r) (by simpa using h)
    rw [tcells_cons, show (k + 1) * 4 = k * 4 + 1 + 1 + 1 + 1 by omega]
    simpa using this

/-- The slice v holds the tokens l, with their attributes, in blocks of S. -/
def TokAt (S : Nat → Prop) (w : World) (l : List Tk) (v : Value) : Prop :=
  ∃ (R : List (Tk × Value)) (A : Option Addr) (c : Nat), R.map (·.1) = l ∧ v = .slice A l.length c ∧ l.length ≤ c ∧ Cells S w A (tcells R) ∧ ∀ r ∈ R, AttrsAt S w r.1.attrs r.2
theorem TokAt.keep {S : Nat → Prop} {w w' : World} {l : List Tk} {v : Value} (h : TokAt S w l v) (hk : Kept S w w') : TokAt S w' l v := by
  obtain ⟨R, A, c, h1, h2, h3, h4, h5⟩ := h
  exact ⟨R, A, c, h1, h2, h3, h4.keep hk, fun r hr => (h5 r hr).keep hk⟩
theorem TokAt.mono {S S' : Nat → Prop} {w : World} {l : List Tk} {v : Value} (h : TokAt S w l v) (hS : ∀ b, S b → S' b) : TokAt S' w l v := by
  obtain ⟨R, A, c, h1, h2, h3, h4, h5⟩ := h
  exact ⟨R, A, c, h1, h2, h3, h4.mono hS, fun r hr => (h5 r hr).mono hS⟩
theorem TokAt.stay {w w' : World} {B : Nat} {l : List Tk} {v : Value} (h : TokAt (· < B) w l v) (hb : Below B w w') : TokAt (· < B) w' l v := h.keep (Kept.belowB hb fun _ h => h)
theorem TokAt.nil (S : Nat → Prop) (w : World) : TokAt S w [] (.slice none 0 0) := ⟨[], none, 0, rfl, rfl, Nat.le_refl _, Cells.nil _ _ _, by simp⟩
theorem TokAt.shape {S : Nat → Prop} {w : World} {l : List Tk} {v : Value} (h : TokAt S w l v) : ∃ A c, v = .slice A l.length c ∧ l.length ≤ c := by
  obtain ⟨R, A, c, h1, h2, h3, h4, h5⟩ := h
  exact ⟨A, c, h2, h3⟩
/-- A token's cells, and its attributes. -/
structure TkCell (S : Nat → Prop) (w : World) (b o : Nat) (t : Tk) (va : Value) : Prop where
  c0 : w.cell? ⟨b, o, none⟩ = some (.int .i64 t.kind)
  c1 : w.cell? ⟨b, o + 1, none⟩ = some (.string t.name)
  c2 : w.cell? ⟨b, o + 2, none⟩ = some va
  c3 : w.cell? ⟨b, o + 3, none⟩ = some (.string t.text)
  at_ : AttrsAt S w t.attrs va
theorem TokAt.open_ {S : Nat → Prop} {w : World} {l : List Tk} {v : Value} (h : TokAt S w l v) (hl : 0 < l.length) :
    ∃ b o c, v = .slice (some ⟨b, o, none⟩) l.length c ∧ l.length ≤ c ∧ S b ∧ ∀ k t, l[k]? = some t → ∃ va, TkCell S w b (o + k * 4) t va := by
  obtain ⟨R, A, c, h1, h2, h3, h4, h5⟩ := h
  have hR : R.length = l.length := by rw [← h1, List.length_map]
  obtain ⟨b, o, rfl, hS, hcell⟩ := h4 (by rw [tcells_length]; omega)
  refine ⟨b, o, c, h2, h3, hS, fun k t hk => ?_⟩
  rw [← h1, List.getElem?_map] at hk
  cases hr : R[k]? with
  | none => rw [hr] at hk; cases hk
  | some r =>
    rw [hr] at hk
    injection hk with hk
    subst hk
    have := tcells_at hr
    refine ⟨r.2, hcell _ _ this.1, ?_, ?_, ?_, h5 r (List.mem_of_getElem? hr)⟩
    · rw [Nat.add_assoc]; exact hcell _ _ this.2.1
    · rw [Nat.add_assoc]; exact hcell _ _ this.2.2.1
    · rw [Nat.add_assoc]; exact hcell _ _ this.2.2.2

/-- What token.Tokens hands back. -/
def ToksRet (s : ByteArray) (w : World) (e : Ending) (w' : World) : Prop :=
  ∃ v, e = .returned v ∧ TokAt (fun b => w.heap.size ≤ b ∧ b < w'.heap.size) w' (tokB s.data.toList) v ∧ Below w.heap.size w w'
end Go.Proofs.Ytfdgmoakobjohaa

/- Part OpenK. -/
namespace Go.Proofs.Ytfdgmoakobjohaa
open Go.RowKit Go.ChangeShapes Go.WideShapes Go.ChangeAt
set_option linter.unusedVariables false
set_option maxRecDepth 100000

/-- A token's own parts are no greater than anything may be. -/
structure FineK (k : Tk) : Prop where
  kd : (Lit.int .i64 k.kind).wf = true
  nm : k.name.size ≤ maxLen
  tx : k.text.size ≤ maxLen
  al : k.attrs.length ≤ maxLen
  aa : ∀ a ∈ k.attrs, a.1.size ≤ maxLen ∧ a.2.size ≤ maxLen

/-- A token's kind is a number of the language's. -/
def Kw (k : Tk) : Prop := (Lit.int .i64 k.kind).wf = true

section
variable {H : Type} {enc : TypeId × Value → H} {w : World} {base : Nat} {spare : Nat → Bool} {held : Bool}

/-- What is told of a token at its place. -/
def TokP (w : World) (a : Addr) (i : Nat) (r : Tk × Value) : Prop :=
  (∀ k u, (tcells1 r)[k]? = some u → w.cell? ((a.add (i * 4)).add k) = some u) ∧ AttrsAt (· < w.heap.size) w r.1.attrs r.2 ∧ FineK r.1

theorem toks_close {a : Addr} {len cap : Nat} {R : List (Tk × Value)} (hR : R.length = len) (hl : len ≤ cap) (hm : cap ≤ maxLen) (hp : ∀ i r, R[i]? = some r → TokP w a i r) :
    TokAt (· < w.heap.size) w (R.map (·.1)) (.slice (some a) len cap) ∧ (R.map (·.1)).length ≤ maxLen ∧ ∀ k ∈ R.map (·.1), FineK k := by
  have hmem : ∀ r ∈ R, ∃ i, TokP w a i r := by
    intro r hr
    obtain ⟨i, hi, he⟩ := List.mem_iff_getElem.1 hr
    exact ⟨i, hp i r (by rw [List.getElem?_eq_getElem hi, he])⟩
  refine ⟨⟨R, some a, cap, rfl, by rw [List.length_map, hR], by rw [List.length_map]; omega, ?_, fun r hr => (hmem r hr).choose_spec.2.1⟩, by rw [List.length_map]; omega, ?_⟩
  · intro hx
    rw [tcells_length] at hx
    obtain ⟨y0, hy0⟩ : ∃ y, R[0]? = some y := ⟨_, List.getElem?_eq_getElem (by omega)⟩
    have h00 := (hp 0 y0 hy0).1 0 _ rfl
    obtain ⟨b, o, rfl, hb⟩ := head_addr (a := a) (v := .int .i64 y0.1.kind) (by simpa [Addr.add] using h00)
    refine ⟨b, o, rfl, hb, fun j u hu => ?_⟩
    have hj := (List.getElem?_eq_some_iff.1 hu).1
    rw [tcells_length] at hj
    obtain ⟨y, hy⟩ : ∃ y, R[j / 4]? = some y := ⟨_, List.getElem?_eq_getElem (by omega)⟩
    have hq := (hp (j / 4) y hy).1
    have ha := tcells_at hy
    rcases (show j = j / 4 * 4 ∨ j = j / 4 * 4 + 1 ∨ j = j / 4 * 4 + 2 ∨ j = j / 4 * 4 + 3 by omega) with hj2 | hj2 | hj2 | hj2
    · have := hq 0 _ rfl
      rw [add_none, add_none, Nat.add_assoc, Nat.add_zero, ← hj2] at this
      rw [this]
      have ha := ha.1
      rw [← hj2] at ha
      exact ha.symm.trans hu
    · have := hq 1 _ rfl
      rw [add_none, add_none, Nat.add_assoc, ← hj2] at this
      rw [this]
      have ha := ha.2.1
      rw [← hj2] at ha
      exact ha.symm.trans hu
    · have := hq 2 _ rfl
      rw [add_none, add_none, Nat.add_assoc, ← hj2] at this
      rw [this]
      have ha := ha.2.2.1
      rw [← hj2] at ha
      exact ha.symm.trans hu
    · have := hq 3 _ rfl
      rw [add_none, add_none, Nat.add_assoc, ← hj2] at this
      rw [this]
      have ha := ha.2.2.2
      rw [← hj2] at ha
      exact ha.symm.trans hu
  · intro n hn
    obtain ⟨r, hr, rfl⟩ := List.mem_map.1 hn
    exact (hmem r hr).choose_spec.2.2

theorem open_tokens {fuel : Nat} {v : Value} {x : DataW H × List MemPlace} (h : DataW.trod enc Try.prog w base spare held fuel 22 [v] = some x) :
    ∃ l : List Tk, TokAt (· < w.heap.size) w l v ∧ l.length ≤ maxLen ∧ ∀ k ∈ l, FineK k := by
  have hC : Try.prog.cellsOf 34 = 4 := by kernel_rfl
  have C3 : Try.prog.cellsOf 3 = 1 := by kernel_rfl
  have C9 : Try.prog.cellsOf 9 = 1 := by kernel_rfl
  have CA : Try.prog.cellsOf 32 = 1 := by kernel_rfl
  rcases DataW.trod_slice Try.underlying22 h with ⟨hcs, _⟩ | ⟨a, len, cap, elems, rest, n, hfu, hcs, _, _, hl, hm, hlen, hel, _, _⟩
  · simp at hcs
    subst hcs
    exact ⟨[], TokAt.nil _ _, by simp, by simp⟩
  · simp at hcs
    subst hcs
    rw [hC] at hel
    have key : ∀ i, i < len → ∃ r : Tk × Value, TokP w a i r := by
      intro i hi
      have e := hel i hi
      rw [List.getElem?_eq_getElem (by omega)] at e
      obtain ⟨cs', h1, h2⟩ := Option.bind_eq_some_iff.1 e
      obtain ⟨_, hcl, hat⟩ := World.cells?_some h1
      obtain ⟨xs, n', hn', _, _, hxl, hf⟩ := DataW.trod_struct Try.underlying34 h2
      match cs', hcl with
      | [c0, c1, c2, c3], _ =>
        have f0 : DataW.trod enc Try.prog w base spare held n' 3 ((List.drop 0 [c0, c1, c2, c3]).take (Try.prog.cellsOf 3)) = xs[0]? := hf 0 _ rfl
        have f1 : DataW.trod enc Try.prog w base spare held n' 9 ((List.drop 1 [c0, c1, c2, c3]).take (Try.prog.cellsOf 9)) = xs[1]? := hf 1 _ rfl
        have f2 : DataW.trod enc Try.prog w base spare held n' 32 ((List.drop 2 [c0, c1, c2, c3]).take (Try.prog.cellsOf 32)) = xs[2]? := hf 2 _ rfl
        have f3 : DataW.trod enc Try.prog w base spare held n' 9 ((List.drop 3 [c0, c1, c2, c3]).take (Try.prog.cellsOf 9)) = xs[3]? := hf 3 _ rfl
        rw [C3, List.getElem?_eq_getElem (by rw [hxl]; decide)] at f0
        rw [C9, List.getElem?_eq_getElem (by rw [hxl]; decide)] at f1
        rw [CA, List.getElem?_eq_getElem (by rw [hxl]; decide)] at f2
        rw [C9, List.getElem?_eq_getElem (by rw [hxl]; decide)] at f3
        obtain ⟨k0, e0, _, z0⟩ := DataW.trod_int Try.underlying3 f0
        obtain ⟨s1, e1, _, z1⟩ := DataW.trod_string Try.underlying9 f1
        obtain ⟨s3, e3, _, z3⟩ := DataW.trod_string Try.underlying9 f3
        obtain ⟨la, ha1, ha2, ha3⟩ := open_attrs (v := c2) f2
        simp at e0 e1 e3
        subst e0
        subst e1
        subst e3
        refine ⟨⟨⟨k0, s1, la, s3⟩, c2⟩, fun k u hk => ?_, ha1, ⟨z0, z1, z3, ha2, ha3⟩⟩
        have hk4 : k < 4 := (List.getElem?_eq_some_iff.1 hk).1
        rw [hat k hk4]
        exact hk
    obtain ⟨R, hR, hp⟩ := list_of len key
    exact ⟨R.map (·.1), toks_close hR hl hm hp⟩

end

end Go.Proofs.Ytfdgmoakobjohaa

/- Part TkR. -/
namespace Go.Proofs.Ytfdgmoakobjohaa
open Go.RowKit
set_option linter.unusedVariables false

theorem info_tok : (Try.prog.info? 34).map (fun i => (i.zero, i.size, i.bytes)) = some (some (.agg #[.int .i64 0, .string ⟨#[]⟩, .slice none 0 0, .string ⟨#[]⟩]), 4, 64) := by kernel_rfl

/-- A list of tokens of the call's own: their attributes lie anywhere from block lo on, but in its own row. -/
def OwnK5 (w : World) (lo : Nat) (l : List Tk) (v : Value) : Prop :=
  ∃ R : List (Tk × Value), R.map (·.1) = l ∧ w.ownsRow lo 34 4 v R.length (tcells R) ∧ ∀ r ∈ R, AttrsAt (Sub lo w v) w r.1.attrs r.2
theorem OwnK5.nil (w : World) (lo : Nat) : OwnK5 w lo [] (.slice none 0 0) := ⟨[], rfl, World.ownsRow_nil _ _ _ _, by simp⟩
theorem OwnK5.shape {w : World} {lo : Nat} {l : List Tk} {v : Value} (h : OwnK5 w lo l v) : ∃ A c, v = .slice A l.length c ∧ l.length ≤ c := by
  obtain ⟨R, rfl, hown, _⟩ := h
  rw [List.length_map]
  exact own_size hown
theorem OwnK5.lt {w : World} {lo : Nat} {l : List Tk} {v : Value} (h : OwnK5 w lo l v) : ∀ g, v.ownBlock = some g → lo ≤ g ∧ g < w.heap.size := by
  obtain ⟨R, rfl, hown, _⟩ := h
  exact fun g hg => hown.lt g hg
theorem OwnK5.later {w w' : World} {lo : Nat} {l : List Tk} {v : Value} (h : OwnK5 w lo l v) (hb : Below w.heap.size w w') : OwnK5 w' lo l v := by
  obtain ⟨R, hl, hown, hat⟩ := h
  exact ⟨R, hl, own_below hown hb, fun r hr => ((hat r hr).keep (Kept.below hb fun b hs => hs.2.1)).mono fun b hs => ⟨hs.1, Nat.lt_of_lt_of_le hs.2.1 hb.size, hs.2.2⟩⟩
theorem OwnK5.tokAt {w : World} {lo : Nat} {l : List Tk} {v : Value} (h : OwnK5 w lo l v) : TokAt (fun b => lo ≤ b ∧ b < w.heap.size) w l v := by
  obtain ⟨R, rfl, hown, hat⟩ := h
  obtain ⟨A, c, rfl, hc⟩ := own_size hown
  refine ⟨R, A, c, rfl, by rw [List.length_map], by rw [List.length_map]; exact hc, (Cells.own hown).mono fun b hb => hown.lt b hb, fun r hr => (hat r hr).mono fun b hb => ⟨hb.1, hb.2.1⟩⟩

/-- One token more, at an operation. -/
theorem wp_append_tok {w : World} {o : Oper} {a : Act} {K : Act → World → Prop} {Q : Exit → Act → World → Prop} (s x : Operand)
    (ho : o.op = .call { callee := .builtin .append, args := #[s, x], argTypes := #[22, 22] })
    (lo : Nat) (l : List Tk) (v : Value) (hs : a.eval s = v) (h : OwnK5 w lo l v) (r : Tk × Value) (ad : Addr) (c : Nat) (hx : a.eval x = .slice (some ad) 1 c)
    (hnews : ∀ j u, (tcells1 r)[j]? = some u → w.cell? (ad.add j) = some u) (hat : AttrsAt (Sub lo w v) w r.1.attrs r.2)
    (hlen : l.length ≤ 4000000) (hbase : lo ≤ w.heap.size)
    (hK' : ∀ v' w', OwnK5 w' lo (l ++ [r.1]) v' → w.grownBy w' v.ownBlock → K (a.put o.dst v') w') :
    Oper.wp Try.prog o a w K Q := by
  obtain ⟨i0, hi, hz0, hz1, hz2⟩ := info_parts info_tok
  obtain ⟨R, rfl, hown, hat0⟩ := h
  rw [List.length_map] at hlen
  obtain ⟨A1, c1, hva, _⟩ := id hat
  have h1 : ∀ u ∈ tcells1 r, u.oneCell' = true := by
    intro u hu
    simp only [tcells1, List.mem_cons, List.not_mem_nil, or_false] at hu
    rcases hu with rfl | rfl | rfl | rfl
    · rfl
    · rfl
    · rw [hva]; rfl
    · rfl
  obtain ⟨v', w', hrun, own', hgr, hnew⟩ := run_append_new (w := w) lo 22 o.type 34 i0 _ 4 64 Try.underlying22 hi hz0 hz1 hz2 rfl (by decide) v R.length (tcells R) hown ad 1 c (tcells1 r) rfl hnews h1 (by unfold maxLen; omega) (by omega) hbase
  unfold Oper.wp
  simp [execOp, ho, resolve, invoke, builtin, hs, hx, hrun, Result.andThen]
  have hSS : ∀ b, Sub lo w v b → Sub lo w' v' b := by
    intro b hb
    refine ⟨hb.1, Nat.lt_of_lt_of_le hb.2.1 hgr.size, ?_⟩
    rcases hnew with e | e
    · rw [e]; exact hb.2.2
    · intro hg
      have := e b hg
      have := hb.2.1
      omega
  have kp : Kept (Sub lo w v) w w' := Kept.grown hgr fun b hb => ⟨hb.2.1, fun e => hb.2.2 e.symm⟩
  refine hK' v' w' ⟨R ++ [r], by simp, ?_, ?_⟩ hgr
  · rw [List.length_append, tcells_append]
    have : tcells [r] = tcells1 r := by simp [tcells]
    rw [this]
    exact own'
  · intro q hq
    rcases List.mem_append.1 hq with hq | hq
    · exact ((hat0 q hq).keep kp).mono hSS
    · simp at hq
      subst hq
      exact (AttrsAt.keep hat kp).mono hSS

theorem wpList_append_tok {w : World} {ops : Array Oper} {rest : List Oper} {o : Oper} {a : Act} {Q : Exit → Act → World → Prop} (hgd : o.guard = none) (s x : Operand)
    (ho : o.op = .call { callee := .builtin .append, args := #[s, x], argTypes := #[22, 22] })
    (lo : Nat) (l : List Tk) (v : Value) (hs : a.eval s = v) (h : OwnK5 w lo l v) (r : Tk × Value) (ad : Addr) (c : Nat) (hx : a.eval x = .slice (some ad) 1 c)
    (hnews : ∀ j u, (tcells1 r)[j]? = some u → w.cell? (ad.add j) = some u) (hat : AttrsAt (Sub lo w v) w r.1.attrs r.2)
    (hlen : l.length ≤ 4000000) (hbase : lo ≤ w.heap.size)
    (hK : ∀ v' w', OwnK5 w' lo (l ++ [r.1]) v' → w.grownBy w' v.ownBlock → wpList Try.prog ops Q rest (a.put o.dst v') w') :
    wpList Try.prog ops Q (o :: rest) a w := by
  exact wpList_plain hgd fun K hK' => wp_append_tok s x ho lo l v hs h r ad c hx hnews hat hlen hbase fun v' w' h1 h2 => hK' _ _ (hK v' w' h1 h2)

/-- A new token's cells, where they were laid. -/
theorem new_four (w : World) (t : TypeId) (k : Tk) (va : Value) : ∀ j u, (tcells1 (k, va))[j]? = some u → (w.alloc (.cells #[.int .i64 k.kind, .string k.name, va, .string k.text] t)).cell? ((⟨w.heap.size, 0, none⟩ : Addr).add j) = some u := by
  intro j u hj
  rw [add_zero_addr]
  match j, hj with
  | 0, hj => simp [tcells1] at hj; subst hj; simp
  | 1, hj => simp [tcells1] at hj; subst hj; simp
  | 2, hj => simp [tcells1] at hj; subst hj; simp
  | 3, hj => simp [tcells1] at hj; subst hj; simp
  | j + 4, hj => simp [tcells1] at hj

end Go.Proofs.Ytfdgmoakobjohaa

/- Part MergeR. -/
namespace Go.Proofs.Ytfdgmoakobjohaa
open Go.RowKit
set_option linter.unusedVariables false

theorem szL_take (l : List Nd) (k : Nat) : szL (l.take k) ≤ szL l := by
  have : szL l = szL (l.take k) + szL (l.drop k) := by rw [← szL_append, List.take_append_drop]
  omega
theorem merge_snoc (l : List Nd) (n : Nd) : mergeB (l ++ [n]) = mstep (mergeB l) n := by simp [mergeB]

theorem isEmpty_iff' (s : ByteArray) : (s.toList.isEmpty = true) ↔ s.data.toList = [] := by rw [Lib.toList_data]; simp

structure MergeAt (lo : Nat) (w wr : World) (l : List Nd) (k : Nat) (v : Value) (out : List Nd) : Prop where
  le : k ≤ l.length
  is : mergeB (l.take k) = out
  own : OwnC wr w.heap.size lo out v
  bel : Below w.heap.size w wr

def MergeRel (lo : Nat) (w : World) (l : List Nd) (x y : Value) (wr : World) : Prop := ∃ (k : Nat) (out : List Nd), y = .int .i64 k ∧ MergeAt lo w wr l k x out

end Go.Proofs.Ytfdgmoakobjohaa

/- Part NamL. -/
namespace Go.Proofs.Ytfdgmoakobjohaa
open Go.RowKit
set_option linter.unusedVariables false

theorem byte_at (s : ByteArray) (l : List UInt8) (h : s.data.toList = l) : ∀ k, (hk : k < s.size) → l[k]? = some s[k] := by
  intro k hk
  rw [← h, List.getElem?_eq_getElem (by simpa using hk)]
  rw [at_data s k hk]
theorem take_snoc1 {l : List UInt8} {k : Nat} {c : UInt8} (h : l[k]? = some c) : l.take (k + 1) = l.take k ++ [c] := by rw [List.take_add_one, h]; rfl

end Go.Proofs.Ytfdgmoakobjohaa

/- Part NamA. -/
namespace Go.Proofs.Ytfdgmoakobjohaa
open Go.RowKit
set_option linter.unusedVariables false

theorem byte_no {c : UInt8} {n : Nat} (h : c.toNat ≠ n) : ((c.toNat : Int) == (n : Int)) = false := by
  rw [beq_eq_false_iff_ne]
  omega

theorem attC_true {c : UInt8} (h : attC c = true) : (c.toNat < 65 ∨ 90 < c.toNat) ∧ c.toNat ≠ 9 ∧ c.toNat ≠ 10 ∧ c.toNat ≠ 12 ∧ c.toNat ≠ 32 ∧ c.toNat ≠ 47 ∧ c.toNat ≠ 62 ∧ c.toNat ≠ 61 := by
  unfold attC at h
  simp at h
  omega
theorem attC_false {c : UInt8} (h : attC c = false) : (65 ≤ c.toNat ∧ c.toNat ≤ 90) ∨ c.toNat = 9 ∨ c.toNat = 10 ∨ c.toNat = 12 ∨ c.toNat = 32 ∨ c.toNat = 47 ∨ c.toNat = 62 ∨ c.toNat = 61 := by
  unfold attC at h
  simp at h
  omega

end Go.Proofs.Ytfdgmoakobjohaa

/- Part WordR. -/
namespace Go.Proofs.Ytfdgmoakobjohaa
open Go.RowKit
set_option linter.unusedVariables false

theorem below_newN (w : World) (o : Obj) : Below w.heap.size w (w.alloc o) := (Below.refl _ _).alloc (Nat.le_refl _) _

/-- A text that is a name, as long as another one or six bytes. -/
def SomeName (P : List UInt8 → Bool) (n : Nat) (w : World) (e : Ending) (w' : World) : Prop := ∃ t : ByteArray, e = .returned (.string t) ∧ P t.data.toList = true ∧ t.size ≤ n + 7 ∧ Below w.heap.size w w'

theorem word_cell (w : World) (t : TypeId) (m : Nat) (h : m < 10) :
    ∃ x : ByteArray, (w.alloc (.cells #[.string ⟨#[97]⟩, .string ⟨#[98]⟩, .string ⟨#[112]⟩, .string ⟨#[117, 108]⟩, .string ⟨#[108, 105]⟩, .string ⟨#[98, 114]⟩, .string ⟨#[105, 109, 103]⟩, .string ⟨#[100, 105, 118]⟩, .string ⟨#[115, 99, 114, 105, 112, 116]⟩, .string ⟨#[120, 45, 121]⟩] t)).cell? ⟨w.heap.size, m, none⟩ = some (.string x) ∧ namedB x.data.toList = true ∧ x.size ≤ 7 := by
  have : m = 0 ∨ m = 1 ∨ m = 2 ∨ m = 3 ∨ m = 4 ∨ m = 5 ∨ m = 6 ∨ m = 7 ∨ m = 8 ∨ m = 9 := by omega
  rcases this with rfl | rfl | rfl | rfl | rfl | rfl | rfl | rfl | rfl | rfl
  all_goals exact ⟨_, by simp; rfl, by decide, by decide⟩

theorem attr_cell (w : World) (t : TypeId) (m : Nat) (h : m < 5) :
    ∃ x : ByteArray, (w.alloc (.cells #[.string ⟨#[105, 100]⟩, .string ⟨#[104, 114, 101, 102]⟩, .string ⟨#[116, 105, 116, 108, 101]⟩, .string ⟨#[100, 97, 116, 97, 45, 97]⟩, .string ⟨#[111, 110, 99, 108, 105, 99, 107]⟩] t)).cell? ⟨w.heap.size, m, none⟩ = some (.string x) ∧ attrB x.data.toList = true ∧ x.size ≤ 7 := by
  have : m = 0 ∨ m = 1 ∨ m = 2 ∨ m = 3 ∨ m = 4 := by omega
  rcases this with rfl | rfl | rfl | rfl | rfl
  all_goals exact ⟨_, by simp; rfl, by decide +kernel, by decide⟩

/-- What is told of an attribute's name: it may be one; one that may be stays. -/
def AttN (s t : ByteArray) : Prop := attrB t.data.toList = true ∧ (attrB s.data.toList = true → t = s)
def SomeAtt (s : ByteArray) (w : World) (e : Ending) (w' : World) : Prop := ∃ t : ByteArray, e = .returned (.string t) ∧ AttN s t ∧ t.size ≤ s.size + 7 ∧ Below w.heap.size w w'
end Go.Proofs.Ytfdgmoakobjohaa

/- Part ValR. -/
namespace Go.Proofs.Ytfdgmoakobjohaa
open Go.RowKit
set_option linter.unusedVariables false

/-- The value of the first attribute of a name. -/
def valA : List (ByteArray × ByteArray) → ByteArray → Option ByteArray
  | [], _ => none
  | a :: l, x => if a.1 = x then some a.2 else valA l x
theorem valA_none {l : List (ByteArray × ByteArray)} {x : ByteArray} : valA l x = none ↔ ∀ a ∈ l, a.1 ≠ x := by
  induction l with
  | nil => simp [valA]
  | cons a l ih =>
    unfold valA
    by_cases h : a.1 = x
    · simp [h]
    · simp [h, ih]
theorem valA_at {l : List (ByteArray × ByteArray)} {x : ByteArray} {k : Nat} {a : ByteArray × ByteArray} (h : ∀ b ∈ l.take k, b.1 ≠ x) (hk : l[k]? = some a) (ha : a.1 = x) : valA l x = some a.2 := by
  induction l generalizing k with
  | nil => simp at hk
  | cons b l ih =>
    cases k with
    | zero =>
      simp at hk
      subst hk
      unfold valA
      rw [if_pos ha]
    | succ k =>
      have hb := h b (by simp)
      unfold valA
      rw [if_neg hb]
      exact ih (k := k) (fun y hy => h y (by simp [hy])) (by simpa using hk)

theorem str_eq (a b : ByteArray) : (a.toList == b.toList) = decide (a = b) := by
  rw [eq_two]
  congr 1
  rw [eq_iff_iff]
  constructor
  · intro h
    apply ByteArray.ext
    exact Array.toList_inj.1 h
  · intro h
    rw [h]

structure ValAt (w wr : World) (l : List (ByteArray × ByteArray)) (x : ByteArray) (k : Nat) : Prop where
  le : k ≤ l.length
  is : ∀ b ∈ l.take k, b.1 ≠ x
  bel : Below w.heap.size w wr
  slot : True
def ValRel (w : World) (W : World) (l : List (ByteArray × ByteArray)) (x : ByteArray) (y : Value) (wr : World) : Prop := ∃ k : Nat, y = .int .i64 k ∧ ValAt w wr l x k ∧ wr = W

theorem ret_sb {a a' : ByteArray} {b b' : Bool} (h : a = a') (h' : b = b') : Ending.returned (.tuple #[.string a, .bool b]) = .returned (.tuple #[.string a', .bool b']) := by rw [h, h']

end Go.Proofs.Ytfdgmoakobjohaa
