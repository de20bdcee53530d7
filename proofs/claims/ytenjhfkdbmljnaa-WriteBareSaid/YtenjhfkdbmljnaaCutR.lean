/- strainerref03.Cut, Few: their walks. -/
import Derived.Test.YtenjhfkdbmljnaaTreeA
import Derived.Test.YtenjhfkdbmljnaaNamR
import Derived.Deep.AppendLies
import Derived.Deep.RegionHeld3
namespace Go.Proofs.Ytenjhfkdbmljnaa
open Go.RowKit
set_option linter.unusedVariables false
set_option linter.unusedSimpArgs false

/-- A node's own parts are no greater than anything may be. -/
structure FineN (n : Nd) : Prop where
  k0 : -9223372036854775808 ≤ n.kind
  k1 : n.kind ≤ 9223372036854775807
  nm : n.name.size ≤ maxLen
  tx : n.text.size ≤ maxLen
  al : n.attrs.length ≤ maxLen
  aa : ∀ a ∈ n.attrs, a.1.size ≤ maxLen ∧ a.2.size ≤ maxLen
inductive Fine : List Nd → Prop
  | mk (l : List Nd) (hl : l.length ≤ maxLen) (h : ∀ n ∈ l, FineN n) (hk : ∀ n ∈ l, Fine n.kids) : Fine l
theorem Fine.len {l : List Nd} (h : Fine l) : l.length ≤ maxLen := by cases h; assumption
theorem Fine.at_ {l : List Nd} (h : Fine l) {k : Nat} {n : Nd} (hn : l[k]? = some n) : FineN n ∧ Fine n.kids := by
  cases h with
  | mk l hl h hk => exact ⟨h n (List.mem_of_getElem? hn), hk n (List.mem_of_getElem? hn)⟩

theorem few3_same (s : ByteArray) (w : World) (hm : s.size ≤ maxLen) :
    Calls Try.prog 48 #[.string s] w fun e w' => e = .returned (.string (few3S s)) ∧ w' = w :=
  (few3_any s w hm).mono fun _ _ ⟨he, hw⟩ => ⟨he, hw.symm⟩

/-- Texts alone; elements b with attributes id alone, and texts alone for kids. -/
def ShK (l : List Nd) : Prop := ∀ q ∈ l, q.kind = 2
def Sh (l : List Nd) : Prop := ∀ m ∈ l, m.kind = 1 ∧ m.name = ⟨#[98]⟩ ∧ (∀ a ∈ m.attrs, a.1 = ⟨#[105, 100]⟩) ∧ ShK m.kids
/-- Such lists stay such lists. -/
def Kp (l out : List Nd) : Prop := (ShK l → ShK out) ∧ (Sh l → Sh out)
theorem Kp.nil (l : List Nd) : Kp l [] := by
  refine ⟨fun _ => ?_, fun _ => ?_⟩
  · intro q hq; cases hq
  · intro q hq; cases hq
theorem Kp.snoc {l out out2 : List Nd} {k : Nat} {n : Nd} (h : Kp l out) (hn : l[k]? = some n) (h2 : Kp n.kids out2) {a : List (ByteArray × ByteArray)} (ha : ∀ y ∈ a, ∃ x ∈ n.attrs, y.1 = few3S x.1) (t : ByteArray) : Kp l (out ++ [.mk n.kind (few3S n.name) a t out2]) := by
  have hm := List.mem_of_getElem? hn
  refine ⟨fun hs q hq => ?_, fun hs q hq => ?_⟩
  · rcases List.mem_append.1 hq with hq | hq
    · exact h.1 hs q hq
    · simp at hq
      subst hq
      exact hs n hm
  · rcases List.mem_append.1 hq with hq | hq
    · exact h.2 hs q hq
    · simp at hq
      subst hq
      obtain ⟨e1, e2, e4, e3⟩ := hs n hm
      refine ⟨e1, ?_, fun y hy => ?_, h2.1 e3⟩
      · show few3S n.name = _
        rw [e2]
        rfl
      · obtain ⟨x, hx, e⟩ := ha y hy
        rw [e, e4 x hx]
        rfl

structure CutAt (w wr : World) (l : List Nd) (most k m : Nat) (out : List Nd) (v : Value) : Prop where
  le : k ≤ l.length
  lm : m ≤ most
  own : OwnC wr w.heap.size w.heap.size out v
  sz : szL out ≤ 420 * (most - m)
  bel : Below w.heap.size w wr
  kp : Kp l out
def CutRel (w : World) (l : List Nd) (most : Nat) (x y z : Value) (wr : World) : Prop := ∃ (k m : Nat) (out : List Nd), x = .int .i64 m ∧ z = .int .i64 k ∧ CutAt w wr l most k m out y

structure InAt (W0 wr : World) (j : Nat) (a : List (ByteArray × ByteArray)) (v : Value) (al : List (ByteArray × ByteArray)) : Prop where
  le : j ≤ al.length
  l5 : j ≤ 5
  ln : a.length = j
  sz : szA a ≤ 70 * j
  own : wr.ownsRow W0.heap.size 35 2 v j (acells a)
  bel : Below W0.heap.size W0 wr
  nm : ∀ y ∈ a, ∃ x ∈ al, y.1 = few3S x.1
theorem nm_snoc {a al : List (ByteArray × ByteArray)} (h : ∀ y ∈ a, ∃ x ∈ al, y.1 = few3S x.1) {x : ByteArray × ByteArray} (hx : x ∈ al) (u : ByteArray) : ∀ y ∈ a ++ [(few3S x.1, u)], ∃ x ∈ al, y.1 = few3S x.1 := by
  intro y hy
  rcases List.mem_append.1 hy with hy | hy
  · exact h y hy
  · simp at hy
    subst hy
    exact ⟨x, hx, rfl⟩
def InRel (W0 : World) (al : List (ByteArray × ByteArray)) (x y : Value) (wr : World) : Prop := ∃ (j : Nat) (a : List (ByteArray × ByteArray)), y = .int .i64 j ∧ InAt W0 wr j a x al

theorem new_two (w : World) (t : TypeId) (x y : ByteArray) : ∀ j u, (acells [(x, y)])[j]? = some u → (w.alloc (.cells #[.string x, .string y] t)).cell? ((⟨w.heap.size, 0, none⟩ : Addr).add j) = some u := by
  intro j u hj
  rw [add_zero_addr]
  match j, hj with
  | 0, hj => simp [acells] at hj; subst hj; simp
  | 1, hj => simp [acells] at hj; subst hj; simp
  | j + 2, hj => simp [acells] at hj
theorem acells_one (l : List (ByteArray × ByteArray)) : ∀ u ∈ acells l, u.oneCell' = true := by
  intro u hu
  unfold acells at hu
  obtain ⟨a, _, hu⟩ := List.mem_flatMap.1 hu
  simp at hu
  rcases hu with rfl | rfl <;> rfl

/-- What lies below the call's own rows stays, while these grow. -/
theorem far_cell {W W' : World} {B e s : Nat} {v : Value} {n : Nat} {xs : List Value} {b i : Nat} (hg : W.grownBy W' v.ownBlock) (h : W.ownsRow B e s v n xs) (hb : b < B) (hw : b < W.heap.size) : W'.cell? ⟨b, i, none⟩ = W.cell? ⟨b, i, none⟩ :=
  World.cell?_of_block (a := ⟨b, i, none⟩) (hg.block b hw (fun e => by have := (h.lt b e.symm).1; omega))

theorem kept_store {w : World} (a : Addr) (v : Value) (ob : Obj) : Kept (fun b => b ≠ a.block ∧ b < w.heap.size) w ((w.setCell a v).alloc ob) := by
  intro b hb i
  refine (World.cell?_alloc_past (w := w.setCell a v) ob b i (by simpa using hb.2)).trans ?_
  exact World.cell?_setCell_other _ _ _ _ (by intro e; exact hb.1 (by rw [e]))

/-- A node is whole: what hangs on it, and the list that it goes into. -/
theorem cut_node {w wo w2 W0 wr : World} {out out2 : List Nd} {u v2 v9 : Value} {j : Nat} {a : List (ByteArray × ByteArray)} (hw : w.heap.size ≤ wo.heap.size) (hown : OwnC wo w.heap.size w.heap.size out u)
    (hz : wo.heap.size < w2.heap.size) (h0 : W0.heap.size = w2.heap.size) (hbo : Below wo.heap.size wo W0) (kp : Kept (fun b => wo.heap.size < b ∧ b < w2.heap.size) w2 W0)
    (own2 : OwnC w2 (wo.heap.size + 1) (wo.heap.size + 1) out2 v2) (hib : Below W0.heap.size W0 wr) (hia : wr.ownsRow W0.heap.size 35 2 v9 j (acells a)) (hil : a.length = j) (ob : Obj) :
    OwnC ((wr.setCell ⟨wo.heap.size, 2, none⟩ v9).alloc ob) w.heap.size w.heap.size out u ∧ AttrsAt (Sub w.heap.size ((wr.setCell ⟨wo.heap.size, 2, none⟩ v9).alloc ob) u) ((wr.setCell ⟨wo.heap.size, 2, none⟩ v9).alloc ob) a v9 ∧
      Tree (Sub w.heap.size ((wr.setCell ⟨wo.heap.size, 2, none⟩ v9).alloc ob) u) ((wr.setCell ⟨wo.heap.size, 2, none⟩ v9).alloc ob) out2 v2 := by
  have hwr := hib.size
  have hlto := OwnT.lt hown
  have hsz : ((wr.setCell ⟨wo.heap.size, 2, none⟩ v9).alloc ob).heap.size = wr.heap.size + 1 := by simp
  have hbf : Below wo.heap.size wo ((wr.setCell ⟨wo.heap.size, 2, none⟩ v9).alloc ob) := by
    have h1 : Below wo.heap.size wo wr := hbo.trans (hib.mono (by omega))
    exact (h1.setCell (p := ⟨wo.heap.size, 2, none⟩) (Nat.le_refl _) _).alloc (by simp; omega) _
  have kf := kept_store (w := wr) ⟨wo.heap.size, 2, none⟩ v9 ob
  refine ⟨hown.later hbf, ?_, ?_⟩
  · obtain ⟨A9, c9, rfl, hc9⟩ := own_size hia
    subst hil
    refine ⟨A9, c9, rfl, hc9, ((Cells.own hia).keep (kf.mono ?_)).mono ?_⟩
    · intro b hb
      have := hia.lt b hb
      exact ⟨by show b ≠ wo.heap.size; omega, this.2⟩
    · intro b hb
      have := hia.lt b hb
      refine ⟨by omega, by rw [hsz]; omega, fun e => ?_⟩
      have := (hlto b e).2
      omega
  · have t := own2.tree (Nat.le_refl _)
    refine (((t.keep (kp.mono ?_)).keep (Kept.belowB hib ?_)).keep (kf.mono ?_)).mono ?_
    · intro b hb; omega
    · intro b hb; omega
    · intro b hb; exact ⟨by show b ≠ wo.heap.size; omega, by omega⟩
    · intro b hb
      refine ⟨by omega, by rw [hsz]; omega, fun e => ?_⟩
      have := (hlto b e).2
      omega

/-- What Cut tells. -/
def CutEnd (w : World) (l : List Nd) (most : Nat) (e : Ending) (w' : World) : Prop :=
  ∃ (out : List Nd) (v : Value) (m : Nat), e = .returned (.tuple #[v, .int .i64 m]) ∧ m ≤ most ∧ OwnC w' w.heap.size w.heap.size out v ∧ szL out ≤ 420 * (most - m) ∧ Below w.heap.size w w' ∧ Kp l out

set_option maxHeartbeats 4000000 in
set_option maxRecDepth 100000 in
theorem cut_any (l : List Nd) : ∀ (S : Nat → Prop) (v : Value) (most : Nat) (w : World), Tree S w l v → (∀ b, S b → b < w.heap.size) → Fine l → most ≤ 1000 →
    Calls Try.prog 36 #[v, .int .i64 most] w (CutEnd w l most) := by
  induction l using nd_ind with
  | h l ih =>
    intro S v most w hT hS hF hmost
    have hlen := hF.len
    unfold maxLen at hlen
    obtain ⟨A, c, rfl, hc⟩ := hT.shape
    have HT := Lib.hid hT
    have HF := Lib.hid hF
    have IH := Lib.hid ih
    have HS := Lib.hid hS
    clear hT hF ih hS
    go_enter Try.func36, Try.ntmps36
    go_wp2_with fail
    go_loopw [1, 6, 7] (fun x y z wr => CutRel w l most x y z wr) (fun _ _ z _ => l.length - (intOf z).toNat)
    case atStart => exact ⟨0, most, [], rfl, rfl, by omega, Nat.le_refl _, OwnC.nil _ _ _, by rw [szL_nil]; omega, Below.refl _ _, Kp.nil _⟩
    case round =>
      obtain ⟨k, m, out, rfl, rfl, HR⟩ := hrel
      have hk := HR.le
      have hm := HR.lm
      have hown := HR.own
      have hsz := HR.sz
      have hbel := HR.bel
      have HKP := Lib.hid HR.kp
      clear HR
      have hol := szL_len out
      by_cases hlt : k < l.length ∧ 0 < m
      · obtain ⟨hlt, hm0⟩ := hlt
        obtain ⟨b, o, c', hv, _, hSb, hcell⟩ := HT.out.open_ (by omega)
        injection hv with hA _ hcc
        subst hA
        subst hcc
        obtain ⟨n, hn⟩ : ∃ n, l[k]? = some n := ⟨_, List.getElem?_eq_getElem hlt⟩
        obtain ⟨va, vk, hat⟩ := hcell k n hn
        have hbw := HS.out b hSb
        have hfn := HF.out.at_ hn
        have q0 : wr.cell? ⟨b, o + k * 5, none⟩ = some (.int .i64 n.kind) := (hbel.cell (p := ⟨b, o + k * 5, none⟩) hbw).trans hat.c0
        have q1 : wr.cell? ⟨b, o + k * 5 + 1, none⟩ = some (.string n.name) := (hbel.cell (p := ⟨b, o + k * 5 + 1, none⟩) hbw).trans hat.c1
        have q2 : wr.cell? ⟨b, o + k * 5 + 2, none⟩ = some va := (hbel.cell (p := ⟨b, o + k * 5 + 2, none⟩) hbw).trans hat.c2
        have q3 : wr.cell? ⟨b, o + k * 5 + 3, none⟩ = some (.string n.text) := (hbel.cell (p := ⟨b, o + k * 5 + 3, none⟩) hbw).trans hat.c3
        have q4 : wr.cell? ⟨b, o + k * 5 + 4, none⟩ = some vk := (hbel.cell (p := ⟨b, o + k * 5 + 4, none⟩) hbw).trans hat.c4
        have ihk := IH.out k n hn S vk (m - 1)
        have HIH := Lib.hid ihk
        have HAT := Lib.hid hat
        have HFN := Lib.hid hfn
        have hm1 : (m : Int) - 1 = ((m - 1 : Nat) : Int) := by omega
        have hm0' : (0 : Int) < (m : Int) := by omega
        have hwz := hbel.size
        have HN0 := Lib.hid hn
        clear hcell hn hat hfn ihk
        obtain ⟨A2, c2, rfl, _, _⟩ := id HAT.out.at_
        obtain ⟨A4, c4, rfl, _⟩ := HAT.out.kids.shape
        go_wp2_with fail
        refine (few3_any n.name _ HFN.out.1.nm).mono ?_
        rintro e w1 ⟨rfl, rfl⟩
        go_wp2_with fail
        refine (few3_any n.text _ HFN.out.1.tx).mono ?_
        rintro e w1 ⟨rfl, rfl⟩
        go_wp2_with fail
        refine (HIH.out _ (HAT.out.kids.keep (Kept.belowB (hbel.alloc hbel.size _) HS.out)) (fun b hb => by have := HS.out b hb; simp; omega) HFN.out.2 (by omega)).mono ?_
        rintro e w2 ⟨out2, v2, m2, rfl, hm2, hown2, hsz2, hb2, hkp2⟩
        have HKP2 := Lib.hid hkp2
        clear hkp2
        obtain ⟨A5, c5, rfl, _⟩ := OwnT.shape hown2
        have hz2 : wr.heap.size < w2.heap.size := by have := hb2.size; simp at this; omega
        have d : ∀ j, w2.cell? ⟨wr.heap.size, j, none⟩ = _ := fun j => hb2.cell (p := ⟨wr.heap.size, j, none⟩) (by simp)
        have d0 := (d 0).trans (show _ = some (.int .i64 n.kind) by simp)
        have d1 := (d 1).trans (show _ = some (.string (few3S n.name)) by simp)
        have d2 := (d 2).trans (show _ = some (.slice A2 n.attrs.length c2) by simp)
        have d3 := (d 3).trans (show _ = some (.string (few3S n.text)) by simp)
        have d4 := (d 4).trans (show _ = some (.slice A4 n.kids.length c4) by simp)
        have f : ∀ j, w2.frozen? ⟨wr.heap.size, j, none⟩ = _ := fun j => hb2.frozen (p := ⟨wr.heap.size, j, none⟩) (by simp)
        have f2 := (f 2).trans (show _ = false by simp)
        have f4 := (f 4).trans (show _ = false by simp)
        have hbw2 : Below w.heap.size w w2 := below_after (hbel.alloc hbel.size _) hb2
        have OW2 := Lib.hid (show OwnC w2 (wr.heap.size + 1) (wr.heap.size + 1) out2 (.slice A5 out2.length c5) by simpa using hown2)
        have HB2 := Lib.hid hb2
        clear d f hown2 hb2 q0 q1 q2 q3 q4
        go_wp2_with fail
        obtain ⟨W0, hW0⟩ : ∃ W0, w2.setCell ⟨wr.heap.size, 4, none⟩ (.slice A5 out2.length c5) = W0 := ⟨_, rfl⟩
        have hz0 : W0.heap.size = w2.heap.size := by rw [← hW0]; simp
        have e0 : W0.cell? ⟨wr.heap.size, 0, none⟩ = some (.int .i64 n.kind) := by rw [← hW0, World.cell?_setCell_other _ _ _ _ (by simp)]; exact d0
        have e1 : W0.cell? ⟨wr.heap.size, 1, none⟩ = some (.string (few3S n.name)) := by rw [← hW0, World.cell?_setCell_other _ _ _ _ (by simp)]; exact d1
        have e2 : W0.cell? ⟨wr.heap.size, 2, none⟩ = some (.slice A2 n.attrs.length c2) := by rw [← hW0, World.cell?_setCell_other _ _ _ _ (by simp)]; exact d2
        have e3 : W0.cell? ⟨wr.heap.size, 3, none⟩ = some (.string (few3S n.text)) := by rw [← hW0, World.cell?_setCell_other _ _ _ _ (by simp)]; exact d3
        have e4 : W0.cell? ⟨wr.heap.size, 4, none⟩ = some (.slice A5 out2.length c5) := by rw [← hW0]; exact World.cell?_setCell_same _ _ _ d4
        have ef : W0.frozen? ⟨wr.heap.size, 2, none⟩ = false := by rw [← hW0, World.frozen?_setCell]; exact f2
        have hbw0 : Below w.heap.size w W0 := by rw [← hW0]; exact hbw2.setCell hwz _
        have kp0 : Kept (fun b => wr.heap.size < b ∧ b < w2.heap.size) w2 W0 := by
          intro b hb j
          rw [← hW0]
          exact World.cell?_setCell_other _ _ _ _ (by intro e; injection e with e; omega)
        have hbo0 : Below wr.heap.size wr W0 := by
          rw [← hW0]
          exact (((Below.refl _ wr).alloc (Nat.le_refl _) _).trans (HB2.out.mono (by simp))).setCell (p := ⟨wr.heap.size, 4, none⟩) (Nat.le_refl _) _
        rw [hW0]
        have HW0 := Lib.hid hz0
        have KP0 := Lib.hid kp0
        have HBO := Lib.hid hbo0
        have HE := Lib.hid (And.intro e0 (And.intro e1 (And.intro e2 (And.intro e3 e4))))
        have HEF := Lib.hid ef
        have hz02 : wr.heap.size < W0.heap.size := by omega
        clear hW0 d0 d1 d2 d3 d4 f2 f4 hz0 kp0 hbo0 e0 e1 e2 e3 e4 ef
        obtain ⟨wo, rfl⟩ : ∃ wo : World, wo = wr := ⟨_, rfl⟩
        go_loopw [9, 10] (fun x y wi => InRel W0 n.attrs x y wi) (fun _ y _ => n.attrs.length - (intOf y).toNat)
        case atStart => exact ⟨0, [], rfl, by omega, by omega, rfl, by simp [szA], World.ownsRow_nil _ _ _ _, Below.refl _ _, by simp⟩
        case round =>
          obtain ⟨j, a, rfl, HI⟩ := hrel
          have hj := HI.le
          have hj5 := HI.l5
          have hia := HI.own
          have hib := HI.bel
          have hiz := HI.sz
          have hil := HI.ln
          have HNM := Lib.hid HI.nm
          clear HI
          have hiw := hib.size
          have keepB : ∀ i, wr.cell? ⟨wo.heap.size, i, none⟩ = W0.cell? ⟨wo.heap.size, i, none⟩ := fun i => hib.cell (p := ⟨wo.heap.size, i, none⟩) hz02
          have g2 := (keepB 2).trans HE.out.2.2.1
          have KB := Lib.hid keepB
          clear keepB
          by_cases hin : j < n.attrs.length ∧ j < 5
          · obtain ⟨hin, hin5⟩ := hin
            obtain ⟨b2, o2, c2', hv2, _, hSb2, hac⟩ := HAT.out.at_.at_ (by omega)
            injection hv2 with hA2 _ hcc2
            subst hA2
            subst hcc2
            obtain ⟨x, hx⟩ : ∃ x, n.attrs[j]? = some x := ⟨_, List.getElem?_eq_getElem hin⟩
            have hbw2' : b2 < w.heap.size := HS.out b2 hSb2
            have hbw3 : b2 < W0.heap.size := by have := hbw0.size; omega
            have k0 : wr.cell? ⟨b2, o2 + j * 2, none⟩ = some (.string x.1) := (hib.cell (p := ⟨b2, o2 + j * 2, none⟩) hbw3).trans ((hbw0.cell (p := ⟨b2, o2 + j * 2, none⟩) hbw2').trans (hac j x hx).1)
            have k1 : wr.cell? ⟨b2, o2 + j * 2 + 1, none⟩ = some (.string x.2) := (hib.cell (p := ⟨b2, o2 + j * 2 + 1, none⟩) hbw3).trans ((hbw0.cell (p := ⟨b2, o2 + j * 2 + 1, none⟩) hbw2').trans (hac j x hx).2)
            have hxs := HFN.out.1.aa x (List.mem_of_getElem? hx)
            have i1 : (j : Int) < (n.attrs.length : Int) := by omega
            have i2 : (0 : Int) ≤ (j : Int) := by omega
            have HX := Lib.hid hxs
            have HX0 := Lib.hid (List.mem_of_getElem? hx)
            clear hac hx hxs
            obtain ⟨i0, hi, hz0, hz1, hz2'⟩ := info_parts info_attr
            have HI0 := Lib.hid (And.intro hi (And.intro hz0 (And.intro hz1 hz2')))
            clear hi hz0 hz1 hz2'
            go_wp2_with fail
            have hbw4 : b2 < wr.heap.size := by omega
            have hbw5 : wo.heap.size < wr.heap.size := by omega
            have nn0 := World.new_ne wr ⟨wo.heap.size, 2, none⟩ g2
            have nn1 := World.new_ne wr ⟨b2, o2 + j * 2, none⟩ k0
            have nn2 := World.new_ne wr ⟨b2, o2 + j * 2 + 1, none⟩ k1
            go_region_held3 (fun W => W.cell? ⟨wo.heap.size, 2, none⟩ = some (.slice (some ⟨b2, o2, none⟩) n.attrs.length c2) ∧ W.cell? ⟨b2, o2 + j * 2, none⟩ = some (.string x.1) ∧ W.cell? ⟨b2, o2 + j * 2 + 1, none⟩ = some (.string x.2)) (first | exact ⟨g2, k0, k1⟩ | go_keep | (refine ⟨(far_cell hgr3 (hia.alloc _) hz02 (by simp <;> omega)).trans ?_, (far_cell hgr3 (hia.alloc _) hbw3 (by simp <;> omega)).trans ?_, (far_cell hgr3 (hia.alloc _) hbw3 (by simp <;> omega)).trans ?_⟩ <;> go_keep)) ((first | (refine step_append_lies _ rfl _ _ _ rfl W0.heap.size 35 i0 _ 2 32 Try.underlying27 HI0.out.1 HI0.out.2.1 HI0.out.2.2.1 HI0.out.2.2.2 rfl (by decide) _ j (acells a) rfl (hia.alloc _) ⟨wr.heap.size, 0, none⟩ 1 1 (acells [(few3S x.1, few3S x.2)]) rfl rfl (new_two wr _ _ _) (acells_one _) (by decide) (by unfold maxLen; omega) (by omega) (by simp; omega) (wr.heap.size + 1) (by simp) ?_; intro g cap w3 hown3 hgr3 hlies hlt3) | (go_at_call 48; refine (few3_any x.1 _ HX.out.1).mono ?_; rintro e w' ⟨rfl, rfl⟩) | (go_at_call 48; refine (few3_any x.2 _ HX.out.2).mono ?_; rintro e w' ⟨rfl, rfl⟩)))
            have hb3 : Below W0.heap.size W0 w3 := ((hib.alloc hib.size _).drew).grown hgr3 (by simp <;> omega) (fun g hg => (hia.lt g hg).1)
            have hsx := few3S_size x.1
            have hsy := few3S_size x.2
            have H3 := Lib.hid (show InAt W0 w3 (j + 1) (a ++ [(few3S x.1, few3S x.2)]) (.slice (some ⟨g, 0, none⟩) (j + 1) cap) n.attrs from
              ⟨by omega, by omega, by rw [List.length_append, hil]; rfl, by rw [szA_append]; simp only [szA]; omega, by rw [acells_append]; exact hown3, hb3, nm_snoc HNM.out HX0.out _⟩)
            clear hgr3 hlies hown3 hb3
            rename_i hheld
            clear hheld
            go_wp2_with fail
            go_roundw
            case rel => exact ⟨j + 1, _, by go_num, H3.out⟩
            case measure => simp [intOf]; omega
          · have hex : n.attrs.length ≤ j ∨ (j < n.attrs.length ∧ 5 ≤ j) := by omega
            obtain ⟨A9, c9, rfl, hc9⟩ := own_size hia
            have c0 := (KB.out 0).trans HE.out.1
            have c1 := (KB.out 1).trans HE.out.2.1
            have c2' := (KB.out 2).trans HE.out.2.2.1
            have c3 := (KB.out 3).trans HE.out.2.2.2.1
            have c4 := (KB.out 4).trans HE.out.2.2.2.2
            have cf : wr.frozen? ⟨wo.heap.size, 2, none⟩ = false := (hib.frozen (p := ⟨wo.heap.size, 2, none⟩) hz02).trans HEF.out
            obtain ⟨A6, c6, rfl, hc6⟩ := OwnT.shape hown
            have hnode := fun ob => cut_node (w := w) (wo := wo) (w2 := w2) (W0 := W0) (wr := wr) (j := j) (a := a) hwz hown hz2 HW0.out HBO.out KP0.out OW2.out hib hia hil ob
            have HND := Lib.hid hnode
            have hbf : Below w.heap.size w (wr.setCell ⟨wo.heap.size, 2, none⟩ (.slice A9 j c9)) := (hbw0.trans (hib.mono (by have := hbw0.size; omega))).setCell (p := ⟨wo.heap.size, 2, none⟩) hwz _
            have hsn := few3S_size n.name
            have hst := few3S_size n.text
            have hlo := OwnT.lt hown
            have HLO := Lib.hid hlo
            have HIA := Lib.hid hia
            have HIL := Lib.hid hil
            have hwr3 : w.heap.size ≤ wr.heap.size + 1 := by have := hbw0.size; omega
            clear hnode hlo hia hil hown
            have hn5 : ∀ i u, (ncells1 ⟨.mk n.kind (few3S n.name) a (few3S n.text) out2, .slice A9 j c9, .slice A5 out2.length c5⟩)[i]? = some u →
                ((wr.setCell ⟨wo.heap.size, 2, none⟩ (.slice A9 j c9)).alloc (.cells #[.int .i64 n.kind, .string (few3S n.name), .slice A9 j c9, .string (few3S n.text), .slice A5 out2.length c5] 29)).cell? ((⟨wr.heap.size, 0, none⟩ : Addr).add i) = some u := by
              intro i u hi
              have := new_five (wr.setCell ⟨wo.heap.size, 2, none⟩ (.slice A9 j c9)) 29 ⟨.mk n.kind (few3S n.name) a (few3S n.text) out2, .slice A9 j c9, .slice A5 out2.length c5⟩ i u hi
              rw [show (wr.setCell ⟨wo.heap.size, 2, none⟩ (.slice A9 j c9)).heap.size = wr.heap.size by simp] at this
              exact this
            have HN5 := Lib.hid hn5
            clear hn5
            rcases hex with hex | ⟨hex1, hex2⟩
            all_goals
              go_wp2_with (at_builtin; refine wpList_append_node rfl _ _ rfl w.heap.size w.heap.size out (.slice A6 out.length c6) rfl (HND.out _).1 ⟨.mk n.kind (few3S n.name) a (few3S n.text) out2, .slice A9 j c9, .slice A5 out2.length c5⟩ ⟨wr.heap.size, 0, none⟩ 1 rfl HN5.out (HND.out _).2.1 (HND.out _).2.2 (by omega) (by simpa using hwr3) ?_; intro v' w4 hown' hgrow)
              have hB4 : Below w.heap.size w w4 := (hbf.alloc hbf.size _).grown hgrow (by simpa using hwr3) (fun g hg => (HLO.out g hg).1)
              clear hgrow
              go_roundw
              case rel =>
                refine ⟨k + 1, m2, out ++ [.mk n.kind (few3S n.name) a (few3S n.text) out2], rfl, by go_num, by omega, by omega, hown', ?_, hB4, HKP.out.snoc HN0.out HKP2.out HNM.out _⟩
                rw [szL_append, szL_cons, szL_nil, szN_mk]
                omega
              case measure => simp [intOf]; omega
      · have hex : l.length ≤ k ∨ (k < l.length ∧ m = 0) := by omega
        have HOW := Lib.hid hown
        rcases hex with hex | ⟨hex, rfl⟩
        all_goals
          clear hown
          go_wp2_with fail
          go_ret2
          exact ⟨out, _, _, rfl, hm, HOW.out, hsz, hbel, HKP.out⟩

end Go.Proofs.Ytenjhfkdbmljnaa
