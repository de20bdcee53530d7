/- Parts of the proof, in build order: Tre7 BldK BldZ Open GlbO. -/
import Derived.Test.YtfdgmoakobjohaaK18
import Derived.StillTailTactics
import Derived.Test.YtfdgmoakobjohaaK10
import Derived.Test.YtfdgmoakobjohaaK15
import Derived.Test.YtfdgmoakobjohaaK16
import Derived.Test.YtfdgmoakobjohaaK14
import Derived.Test.YtfdgmoakobjohaaK01
import Derived.Test.YtfdgmoakobjohaaK08
import Derived.ProofKit
import Derived.OpenShut
import Derived.Test.YtfdgmoakobjohaaK09

/- Part Tre7. -/
namespace Go.Proofs.Ytfdgmoakobjohaa
open Go.RowKit
set_option linter.unusedVariables false

theorem putT_any (P : Nat → Prop) (s : Bst) (k : Tk) (v va : Value) (w : World) (hPN : ∀ b, w.heap.size ≤ b → P b) (hB : BAt P w s v) (hat : AttrsAt (fun b => P b ∧ b < w.heap.size) w k.attrs va) (hsz : szB s + szK k ≤ 90000) :
    Calls Try.prog 23 #[v, .agg #[.int .i64 k.kind, .string k.name, va, .string k.text]] w (PutTRet P (putB s k) w) := by
  by_cases h1 : k.kind = 1
  · exact putT_begin P s k v va w hPN hB hat hsz h1
  by_cases h2 : k.kind = 2
  · exact putT_end P s k v va w hPN hB hat hsz h2
  by_cases h3 : k.kind = 3
  · exact putT_add P s k v va w hPN hB hat hsz h3
  by_cases h4 : k.kind = 4
  · exact putT_rem P s k v va w hPN hB hat hsz h4
  exact putT_else P s k v va w hPN hB hat hsz h1 h2 h3 h4

/-- The builder's box, and what is in it. -/
structure TrAt (w W0 wr : World) (l : List Tk) (i : Nat) (s : Bst) (x y : Value) : Prop where
  le : i ≤ l.length
  is : s = (l.take i).foldl putB ⟨[], []⟩
  sz : szB s ≤ szKs (l.take i)
  at_ : BAt (fun b => b ≠ w.heap.size) wr s (.agg #[x, y])
  box : wr.heap[w.heap.size]? = some (oB x y)
  bel : Below w.heap.size w wr
def TrRel (w W0 : World) (l : List Tk) (y : Value) (wr : World) : Prop := ∃ (i : Nat) (s : Bst) (x z : Value), y = .int .i64 i ∧ TrAt w W0 wr l i s x z
theorem szKs_split (l : List Tk) (i : Nat) : szKs l = szKs (l.take i) + szKs (l.drop i) := by rw [← szKs_append, List.take_append_drop]
theorem TrAt.put {w W0 wr w2 : World} {l : List Tk} {i : Nat} {s : Bst} {x y x2 y2 : Value} {k : Tk} (h : TrAt w W0 wr l i s x y) (hk : l[i]? = some k) (h2 : BAt (fun b => b ≠ w.heap.size) w2 (putB s k) (.agg #[x2, y2])) (hb : Below wr.heap.size wr w2) :
    TrAt w W0 ((w2.setCell ⟨w.heap.size, 0, none⟩ x2).setCell ⟨w.heap.size, 1, none⟩ y2) l (i + 1) (putB s k) x2 y2 := by
  have hz : ((w2.setCell ⟨w.heap.size, 0, none⟩ x2).setCell ⟨w.heap.size, 1, none⟩ y2).heap.size = w2.heap.size := by simp
  have ht : l.take (i + 1) = l.take i ++ [k] := by rw [List.take_add_one, hk, Option.toList_some]
  have kp : Kept (fun b => b ≠ w.heap.size ∧ b < w2.heap.size) w2 ((w2.setCell ⟨w.heap.size, 0, none⟩ x2).setCell ⟨w.heap.size, 1, none⟩ y2) := fun b hb j => two_set x2 y2 hb.1
  have hbx : w2.heap[w.heap.size]? = some (oB x y) := box_keep7 h.box hb
  refine ⟨by have := (List.getElem?_eq_some_iff.1 hk).1; omega, by rw [ht, List.foldl_append, ← h.is]; rfl, ?_, ?_, ?_, ((below_after h.bel hb).setCell (Nat.le_refl _) _).setCell (Nat.le_refl _) _⟩
  · rw [ht, szKs_append]
    have h1 := put_sz s k
    have h2 := h.sz
    simp only [szKs]
    omega
  · obtain ⟨vL, vP, hv, hT, hP⟩ := h2
    injection hv with hv
    injection hv with hv
    injection hv with e1 hv
    injection hv with e2 _
    subst e1
    subst e2
    exact ⟨_, _, rfl, (hT.keep kp).mono fun b h => by rw [hz]; exact h, hP.go kp fun b h => by rw [hz]; exact h⟩
  · have h0 := heap_setCell_same _ w.heap.size 0 _ _ x2 hbx
    exact heap_setCell_same _ w.heap.size 1 _ _ y2 h0

set_option maxHeartbeats 1000000 in
set_option maxRecDepth 100000 in
theorem treeR7_any (l : List Tk) (v : Value) (w : World) (hT : TokAt (· < w.heap.size) w l v) (hsz : szKs l ≤ 40000) :
    Calls Try.prog 15 #[v] w fun e w' => ∃ v', e = .returned v' ∧ Tree (· < w'.heap.size) w' (treeB l) v' ∧ Below w.heap.size w w' := by
  have hlen := szKs_len l
  obtain ⟨A, c, rfl, hc⟩ := hT.shape
  have HT := Lib.hid hT
  clear hT
  go_enter Try.func15, Try.ntmps15
  go_wp2_with fail
  obtain ⟨W0, hW0⟩ : ∃ W0, w.alloc (.cells #[.slice none 0 0, .slice none 0 0] 64) = W0 := ⟨_, rfl⟩
  have hb0 : Below w.heap.size w W0 := by rw [← hW0]; exact below_new _ _
  have hz0 : W0.heap.size = w.heap.size + 1 := by rw [← hW0, World.size_alloc]
  have hx0 : W0.heap[w.heap.size]? = some (oB (.slice none 0 0) (.slice none 0 0)) := by rw [← hW0]; exact alloc_here' rfl
  rw [hW0]
  clear hW0
  go_loopw [4] (fun y wr => TrRel w W0 l y wr) (fun y _ => l.length - (intOf y).toNat)
  case atStart => exact ⟨0, ⟨[], []⟩, _, _, rfl, ⟨Nat.zero_le _, rfl, by simp [szB, szFs, szL_nil], ⟨_, _, rfl, Tree.nil _ _, ⟨none, 0, rfl, Nat.le_refl _, Cells.nil _ _ _⟩⟩, hx0, hb0⟩⟩
  case round =>
    obtain ⟨i, s, x, y, rfl, hat⟩ := hrel
    have HA := Lib.hid hat
    have hle := hat.le
    obtain ⟨vL, vP, hv, hTs, hPs⟩ := id hat.at_
    injection hv with hv
    injection hv with hv
    injection hv with e1 hv
    injection hv with e2 _
    subst e1
    subst e2
    obtain ⟨A1, c1, rfl, _⟩ := hTs.shape
    obtain ⟨A2, c2, rfl, _, _⟩ := hPs
    have y0 : wr.cell? ⟨w.heap.size, 0, none⟩ = some (.slice A1 (nodesB s).length c1) := cell_at hat.box 0
    have y1 : wr.cell? ⟨w.heap.size, 1, none⟩ = some (.slice A2 (pathB s).length c2) := cell_at hat.box 1
    clear hTs hat
    by_cases hlt : i < l.length
    · obtain ⟨b, o, c', hv, _, hb, hcell⟩ := HT.out.open_ (by omega)
      injection hv with hA _ hcc
      subst hA
      subst hcc
      obtain ⟨t, ht⟩ : ∃ t, l[i]? = some t := ⟨_, List.getElem?_eq_getElem hlt⟩
      obtain ⟨va, htk⟩ := hcell i t ht
      have hbr := HA.out.bel
      have q0 : wr.cell? ⟨b, o + i * 4, none⟩ = some (.int .i64 t.kind) := (hbr.cell (p := ⟨b, o + i * 4, none⟩) hb).trans htk.c0
      have q1 : wr.cell? ⟨b, o + i * 4 + 1, none⟩ = some (.string t.name) := (hbr.cell (p := ⟨b, o + i * 4 + 1, none⟩) hb).trans htk.c1
      have q2 : wr.cell? ⟨b, o + i * 4 + 2, none⟩ = some va := (hbr.cell (p := ⟨b, o + i * 4 + 2, none⟩) hb).trans htk.c2
      have q3 : wr.cell? ⟨b, o + i * 4 + 3, none⟩ = some (.string t.text) := (hbr.cell (p := ⟨b, o + i * 4 + 3, none⟩) hb).trans htk.c3
      have i1 : (i : Int) < (l.length : Int) := by omega
      have i2 : (0 : Int) ≤ (i : Int) := by omega
      have hzz := szKs_split l i
      have hzd : szK t ≤ szKs (l.drop i) := szKs_mem (List.mem_of_getElem? (by rw [List.getElem?_drop]; simpa using ht) (i := 0))
      have hzs := HA.out.sz
      have hdr : Below wr.heap.size wr wr.drew := (Below.refl _ _).drew
      have hw0 : w.heap.size < wr.heap.size := (Array.getElem?_eq_some_iff.1 HA.out.box).1
      have HP := Lib.hid (putT_any (fun b => b ≠ w.heap.size) s t (.agg #[.slice A1 (nodesB s).length c1, .slice A2 (pathB s).length c2]) va wr.drew (fun b hb => by have := hdr.size; omega)
        (by
          obtain ⟨vL, vP, hv, hTs, hPs⟩ := HA.out.at_
          have kp : Kept (fun b => b ≠ w.heap.size ∧ b < wr.heap.size) wr wr.drew := Kept.belowB hdr fun b h => h.2
          exact ⟨vL, vP, hv, (hTs.keep kp).mono fun b h => ⟨h.1, Nat.lt_of_lt_of_le h.2 hdr.size⟩, hPs.go kp fun b h => ⟨h.1, Nat.lt_of_lt_of_le h.2 hdr.size⟩⟩)
        ((htk.at_.keep (Kept.belowB (below_after hbr hdr) fun b h => h)).mono fun b h => ⟨Nat.ne_of_lt h, Nat.lt_of_lt_of_le h (below_after hbr hdr).size⟩)
        (by omega))
      have HTK := Lib.hid ht
      obtain ⟨A3, c3, rfl, _, _⟩ := id htk.at_
      clear hcell htk ht hzz hzd hzs
      go_wp2_with fail
      have mixed : Try.prog.follows Departure.mixedOrders = true := by kernel_rfl
      go_still_tail 5, (by kernel_rfl)
      change wpList _ _ _ _ _ wr.drew
      go_wp2_with fail
      refine HP.out.mono ?_
      rintro e w2 ⟨v2, rfl, h2, hb2⟩
      obtain ⟨vL2, vP2, rfl, hT2, hP2⟩ := id h2
      obtain ⟨A5, c5, rfl, _⟩ := hT2.shape
      obtain ⟨A6, c6, rfl, _, _⟩ := hP2
      have hb3 := below_after hdr hb2
      have hbx2 : w2.heap[w.heap.size]? = some (oB (.slice A1 (nodesB s).length c1) (.slice A2 (pathB s).length c2)) := box_keep7 HA.out.box hb3
      have z0 : w2.cell? ⟨w.heap.size, 0, none⟩ = some (.slice A1 (nodesB s).length c1) := cell_at hbx2 0
      have z1 : w2.cell? ⟨w.heap.size, 1, none⟩ = some (.slice A2 (pathB s).length c2) := cell_at hbx2 1
      have f0 := froz7 hbx2 0
      have f1 := froz7 hbx2 1
      have HN := Lib.hid (HA.out.put HTK.out h2 hb3)
      clear h2 hT2 hbx2
      go_wp2_with fail
      go_roundw
      case rel => exact ⟨i + 1, putB s t, _, _, by go_num, HN.out⟩
      case measure => simp [intOf]; omega
    · have hie : i = l.length := by omega
      have HE := Lib.hid (show Tree (· < wr.heap.size) wr (treeB l) (.slice A1 (nodesB s).length c1) by
        obtain ⟨vL, vP, hv, hTs, _⟩ := HA.out.at_
        injection hv with hv
        injection hv with hv
        injection hv with e1 _
        subst e1
        have := HA.out.is
        rw [hie, List.take_length] at this
        unfold treeB
        rw [← this]
        exact hTs.mono fun b h => h.2)
      have HB := Lib.hid HA.out.bel
      have i1 : ¬ ((i : Int) < (l.length : Int)) := by omega
      go_wp2_with fail
      go_ret
      exact ⟨_, rfl, HE.out, HB.out⟩

end Go.Proofs.Ytfdgmoakobjohaa

/- Part BldK. -/
namespace Go.Proofs.Ytfdgmoakobjohaa
open Go.RowKit
set_option linter.unusedVariables false

theorem OwnC.row {w : World} {base lo n c : Nat} {A : Option Addr} {l : List Nd} (h : OwnC w base lo l (.slice A n c)) {k : Nat} {m : Nd} (hk : l[k]? = some m) :
    ∃ g va, A = some ⟨g, 0, none⟩ ∧ base ≤ g ∧ g < w.heap.size ∧ w.cell? ⟨g, k * 5 + 2, none⟩ = some va ∧ AttrsAt (Sub lo w (.slice A n c)) w m.attrs va ∧ (∃ x, w.cell? ⟨g, k * 5 + 3, none⟩ = some x) ∧ (∃ x, w.cell? ⟨g, k * 5 + 4, none⟩ = some x) ∧ ∀ j, w.frozen? ⟨g, j, none⟩ = false := by
  obtain ⟨R, rfl, hown, hat, hkd, hn⟩ := h
  rw [List.getElem?_map] at hk
  cases hr : R[k]? with
  | none => rw [hr] at hk; cases hk
  | some r =>
    rw [hr] at hk
    injection hk with hk
    subst hk
    obtain ⟨A', c', hv, _⟩ := own_size hown
    have hnl : n = R.length := by injection hv
    subst hnl
    have hlt := (List.getElem?_eq_some_iff.1 hr).1
    obtain ⟨g, rfl, _⟩ : ∃ g, A = some ⟨g, 0, none⟩ ∧ True := by
      rcases hown.2 with ⟨_, h0⟩ | ⟨g, cap, cur, hv, _⟩
      · omega
      · injection hv with hA
        exact ⟨g, hA, trivial⟩
    have ha := ncells_at hr
    have hb := hown.lt g rfl
    refine ⟨g, r.va, rfl, hb.1, hb.2, ?_, hat r (List.mem_of_getElem? hr), ⟨_, (hown.cellAt (k * 5 + 3) (by omega)).trans ha.2.2.2.1⟩, ⟨_, (hown.cellAt (k * 5 + 4) (by omega)).trans ha.2.2.2.2⟩, fun j => hown.frozenAt j⟩
    rw [hown.cellAt (k * 5 + 2) (by omega), ha.2.2.1]

/-- A list that is being spoiled. -/
structure SpAt (W1 W2 : World) (g : Nat) (wr : World) : Prop where
  bel : Below W1.heap.size W2 wr
  fr : ∀ p, wr.frozen? p = W2.frozen? p
  ex : ∀ p x, W2.cell? p = some x → ∃ y, wr.cell? p = some y
  at2 : ∀ k, wr.cell? ⟨g, k * 5 + 2, none⟩ = W2.cell? ⟨g, k * 5 + 2, none⟩
theorem SpAt.start (W1 W2 : World) (g : Nat) : SpAt W1 W2 g W2 := ⟨Below.refl _ _, fun p => rfl, fun p x hx => ⟨x, hx⟩, fun k => rfl⟩
theorem SpAt.set {W1 W2 wr : World} {g : Nat} (h : SpAt W1 W2 g wr) (p : Addr) (v : Value) (hp : W1.heap.size ≤ p.block) (hq : ∀ k, p ≠ (⟨g, k * 5 + 2, none⟩ : Addr)) {x : Value} (hx : wr.cell? p = some x) : SpAt W1 W2 g (wr.setCell p v) := by
  refine ⟨h.bel.setCell hp _, fun q => by rw [World.frozen?_setCell]; exact h.fr q, fun q y hy => ?_, fun k => by rw [World.cell?_setCell_other _ _ _ _ (hq k)]; exact h.at2 k⟩
  by_cases e : p = q
  · subst e
    exact ⟨v, World.cell?_setCell_same _ _ _ hx⟩
  · rw [World.cell?_setCell_other _ _ _ _ e]
    exact h.ex q y hy
def MdRel (W1 W2 : World) (g N : Nat) (y : Value) (wr : World) : Prop := ∃ k : Nat, y = .int .i64 k ∧ k ≤ N ∧ SpAt W1 W2 g wr
def KpRel (Inv : Nat → List Tk → Value → World → Prop) (w1 : World) (L : List Tk) (a : Addr) (y : Value) (wr : World) : Prop :=
  ∃ i : Nat, y = .int .i64 i ∧ i ≤ L.length ∧ Inv w1.heap.size (L.take i) (.pointer (some a)) wr ∧ Below w1.heap.size w1 wr
theorem TokAt.take {S : Nat → Prop} {w : World} {l : List Tk} {A : Option Addr} {n c : Nat} (h : TokAt S w l (.slice A n c)) (m : Nat) (hm : m ≤ l.length) : TokAt S w (l.take m) (.slice A m c) := by
  obtain ⟨R, A', c', rfl, hv, hc, hcell, hat⟩ := h
  injection hv with e1 e2 e3
  subst e1
  subst e3
  rw [List.length_map] at hm hc
  refine ⟨R.take m, A, c, List.map_take, by rw [List.length_take, List.length_map, Nat.min_eq_left hm], by rw [List.length_take, List.length_map]; omega, fun h0 => ?_, fun r hr => hat r (List.mem_of_mem_take hr)⟩
  rw [tcells_length, List.length_take] at h0
  obtain ⟨b, o, hA, hS, hc2⟩ := hcell (by rw [tcells_length]; omega)
  refine ⟨b, o, hA, hS, fun j u hu => hc2 j u ?_⟩
  have : tcells R = tcells (R.take m) ++ tcells (R.drop m) := by rw [← tcells_append, List.take_append_drop]
  rw [this]
  rw [List.getElem?_append_left (List.getElem?_eq_some_iff.1 hu).1]
  exact hu

theorem szKs_split7 (l : List Tk) (i : Nat) : szKs l = szKs (l.take i) + szKs (l.drop i) := by rw [← szKs_append, List.take_append_drop]
set_option maxHeartbeats 1000000 in
set_option maxRecDepth 100000 in
theorem buildKeeps_end {Inv : Nat → List Tk → Value → World → Prop} (HB : BldSaid Inv) (l : List Tk) (v : Value) (w : World) (hT : TokAt (· < w.heap.size) w l v) (hl : l.length ≤ maxLen) (hF : ∀ k ∈ l, FineK k) (HGB : Glob w) :
    Calls Try.prog 4 #[v] w fun e w' => e = .returned (.bool true) ∧ Below w.heap.size w w' := by
  have HCUT := Lib.hid (cutT_any l v w hT hl hF)
  clear hT hl hF
  go_enter Try.func4, Try.ntmps4
  go_wp2_with fail
  refine HCUT.out.mono ?_
  rintro e w1 ⟨out, v1, rfl, ho1, hol, hoz, hkw, hb1⟩
  have ht1 : TokAt (· < w1.heap.size) w1 out v1 := ho1.tokAt.mono fun b h => h.2
  obtain ⟨A, c, rfl, hc⟩ := ht1.shape
  by_cases h20 : 20 < out.length
  · obtain ⟨L, hL⟩ : ∃ L, out.take 20 = L := ⟨_, rfl⟩
    have hLl : L.length = 20 := by rw [← hL, List.length_take]; omega
    have HT1 := Lib.hid (show TokAt (· < w1.heap.size) w1 L (.slice A 20 c) by rw [← hL]; exact TokAt.take ht1 20 (by omega))
    have HKT := Lib.hid (show ∀ q ∈ L, Kw q from by rw [← hL]; exact fun q hq => hkw q (List.mem_of_mem_take hq))
    have hLo : szKs L ≤ szKs out := by rw [← hL]; have := szKs_split7 out 20; omega
    have HLL := Lib.hid hLl
    clear hL
    have i9 : (20 : Int) < (out.length : Int) := by omega
    have i8 : (20 : Int) ≤ (c : Int) := by omega
    have i7 : 20 ≤ c := by omega
    clear ho1 ht1
    have hLs : szKs L ≤ 16800 := by omega
    clear hLl
    go_wp2_with fail
    refine (HB.new _ (HGB.below hb1)).mono ?_
    rintro e w2 ⟨a, rfl, hi2, hb2⟩
    go_wp2_with fail
    go_loopw [4] (fun y wr => KpRel Inv w1 L a y wr) (fun y _ => 20 - (intOf y).toNat)
    case atStart => exact ⟨0, rfl, Nat.zero_le _, hi2, hb2⟩
    case round =>
      have hLl := HLL.out
      obtain ⟨i, rfl, hi, hinv, hbr⟩ := hrel
      have hwz := hbr.size
      by_cases hlt : i < L.length
      · obtain ⟨b, o, c', hv, _, hb, hcell⟩ := HT1.out.open_ (by omega)
        injection hv with hA hnn hcc
        clear hnn
        subst hA
        subst hcc
        obtain ⟨t, ht⟩ : ∃ t, L[i]? = some t := ⟨_, List.getElem?_eq_getElem hlt⟩
        obtain ⟨va, hat⟩ := hcell i t ht
        have q0 : wr.cell? ⟨b, o + i * 4, none⟩ = some (.int .i64 t.kind) := (hbr.cell (p := ⟨b, o + i * 4, none⟩) hb).trans hat.c0
        have q1 : wr.cell? ⟨b, o + i * 4 + 1, none⟩ = some (.string t.name) := (hbr.cell (p := ⟨b, o + i * 4 + 1, none⟩) hb).trans hat.c1
        have q2 : wr.cell? ⟨b, o + i * 4 + 2, none⟩ = some va := (hbr.cell (p := ⟨b, o + i * 4 + 2, none⟩) hb).trans hat.c2
        have q3 : wr.cell? ⟨b, o + i * 4 + 3, none⟩ = some (.string t.text) := (hbr.cell (p := ⟨b, o + i * 4 + 3, none⟩) hb).trans hat.c3
        have htk : L.take (i + 1) = L.take i ++ [t] := by rw [List.take_add_one, ht, Option.toList_some]
        have hsz1 : szKs (L.take i ++ [t]) ≤ 40000 := by
          rw [← htk]
          have := szKs_split7 L (i + 1)
          omega
        have HPUT := Lib.hid (HB.put w1.heap.size (L.take i) (.pointer (some a)) wr t va hwz (HGB.below (below_after hb1 hbr)) hinv ((hat.at_.keep (Kept.belowB hbr fun b h => h)).mono fun b h => Nat.lt_of_lt_of_le h hwz) (HKT.out t (List.mem_of_getElem? ht)) hsz1)
        have HTK := Lib.hid htk
        obtain ⟨A3, c3, rfl, _, _⟩ := id hat.at_
        have i1 : (i : Int) < (20 : Int) := by omega
        have HLT := Lib.hid (And.intro hi hlt)
        clear hcell ht hat htk hinv hLl hi hlt
        go_wp2_with fail
        refine HPUT.out.mono ?_
        rintro e W1 ⟨⟨x1, rfl⟩, hinv1, hbw1⟩
        have hB1 : Below w1.heap.size w1 W1 := hbr.trans hbw1
        have HTHA := Lib.hid (HB.nodes w1.heap.size _ _ W1 hB1.size (HGB.below (below_after hb1 hB1)) hinv1 hsz1)
        clear q0 q1 q2 q3 hinv1 hsz1
        go_wp2_with fail
        refine HTHA.out.mono ?_
        rintro e W2 ⟨v5, rfl, ho5, hth, hinv2, hbw2⟩
        have HINV := Lib.hid hinv2
        clear hinv2
        have HBW2 := Lib.hid hbw2
        obtain ⟨A5, c5, rfl, hc5⟩ := OwnT.shape ho5
        have hnl := szL_len (nodesB (bldB (L.take i ++ [t])))
        have hns := tree_sz (L.take i ++ [t])
        have hns2 : szKs (L.take i ++ [t]) ≤ 16800 := by
          rw [← HTK.out]
          have := szKs_split7 L (i + 1)
          omega
        obtain ⟨G, hG⟩ : ∃ G, nodesB (bldB (L.take i ++ [t])) = G := ⟨_, rfl⟩
        have hGz : szL G ≤ 16800 := by
          have : treeB (L.take i ++ [t]) = G := hG
          rw [this] at hns
          omega
        have hGl : G.length ≤ 16800 := by
          have : treeB (L.take i ++ [t]) = G := hG
          rw [this] at hns
          rw [hG] at hnl
          omega
        rw [hG] at ho5 hth hc5 ⊢
        have HO5 := Lib.hid ho5
        have HTH := Lib.hid hth
        clear ho5 hth hG hnl hns hns2
        obtain ⟨g, hg⟩ : ∃ g, ∀ A', A5 = some A' → A'.block = g := by
          cases A5 with
          | none => exact ⟨0, fun _ h => by cases h⟩
          | some A' => exact ⟨A'.block, fun _ h => by injection h with h; rw [h]⟩
        have HGG := Lib.hid hg
        clear hg
        go_wp2_with fail
        go_loopw [6] (fun y wr => MdRel W1 W2 g G.length y wr) (fun y _ => G.length - (intOf y).toNat)
        case atStart => exact ⟨0, rfl, Nat.zero_le _, SpAt.start _ _ g⟩
        case round =>
          obtain ⟨k, rfl, hk, hsp⟩ := hrel
          by_cases hlk : k < G.length
          · obtain ⟨m, hm⟩ : ∃ m, G[k]? = some m := ⟨_, List.getElem?_eq_getElem hlk⟩
            obtain ⟨g', va, rfl, hbg, hgl, hc2, hatt, ⟨x3, hx3⟩, ⟨x4, hx4⟩, hfz⟩ := OwnC.row HO5.out hm
            have hgg : g' = g := HGG.out _ rfl
            subst hgg
            obtain ⟨A6, c6, rfl, hc6, _⟩ := id hatt
            obtain ⟨y3, hy3⟩ := hsp.ex _ _ hx3
            obtain ⟨y4, hy4⟩ := hsp.ex _ _ hx4
            have f3 : ∀ j, wr.frozen? ⟨g', j, none⟩ = false := fun j => (hsp.fr _).trans (hfz j)
            have f33 := f3 (k * 5 + 3)
            have f34 := f3 (k * 5 + 4)
            have i2 : (k : Int) < (G.length : Int) := by omega
            have s1 := hsp.set ⟨g', k * 5 + 3, none⟩ (.string ⟨#[115, 112, 111, 105, 108, 101, 100]⟩) hbg (fun k' e => by injection e with _ e; omega) hy3
            have s2 := s1.set ⟨g', k * 5 + 4, none⟩ (.slice none 0 0) hbg (fun k' e => by injection e with _ e; omega) ((World.cell?_setCell_other _ _ _ _ (by intro e; injection e with _ e; omega)).trans hy4)
            have HSP := Lib.hid s2
            have HAT6 := Lib.hid hatt
            have HC2 := Lib.hid hc2
            have HKL := Lib.hid (And.intro hk hlk)
            obtain ⟨al, hal⟩ : ∃ al, m.attrs.length = al := ⟨_, rfl⟩
            have halz : al ≤ 16800 := by
              have h1 := szL_at hm
              rw [szN_eq] at h1
              have h2 := szA_len m.attrs
              omega
            rw [hal] at HC2
            have HAL := Lib.hid hal
            have q2 : wr.cell? ⟨g', k * 5 + 2, none⟩ = some (.slice A6 al c6) := (hsp.at2 k).trans HC2.out
            clear s1 s2 hatt hc2 hx3 hx4 hsp f3 hfz hm hal
            go_wp2_with fail
            go_loopw [7] (fun y wr => MdRel W1 W2 g' al y wr) (fun y _ => al - (intOf y).toNat)
            case atStart => exact ⟨0, rfl, Nat.zero_le _, HSP.out⟩
            case round =>
              obtain ⟨j, rfl, hj, hsp2⟩ := hrel
              have q5 : wr.cell? ⟨g', k * 5 + 2, none⟩ = some (.slice A6 al c6) := (hsp2.at2 k).trans HC2.out
              by_cases hja : j < al
              · obtain ⟨b2, o2, c2', hv2, _, hSb2, hac⟩ := HAT6.out.at_ (by rw [HAL.out]; omega)
                injection hv2 with hA2 hnn hcc2
                clear hnn
                subst hA2
                obtain ⟨z, hz⟩ : ∃ z, m.attrs[j]? = some z := ⟨_, List.getElem?_eq_getElem (by rw [HAL.out]; exact hja)⟩
                obtain ⟨_, k1⟩ := hac j z hz
                obtain ⟨y5, hy5⟩ := hsp2.ex _ _ k1
                have f5 : wr.frozen? ⟨b2, o2 + j * 2 + 1, none⟩ = false := (hsp2.fr _).trans (by have := HTH.out g' k b2 o2 al c6 HKL.out.2 rfl HC2.out (j * 2 + 1) (by omega); rwa [← Nat.add_assoc] at this)
                have i3 : (j : Int) < (al : Int) := by omega
                have i4 : (0 : Int) ≤ (j : Int) := by omega
                have i5 : (0 : Int) ≤ (k : Int) := by omega
                have s3 := hsp2.set ⟨b2, o2 + j * 2 + 1, none⟩ (.string ⟨#[115, 112, 111, 105, 108, 101, 100]⟩) hSb2.1 (fun k' e => by injection e with e _; exact hSb2.2.2 (by rw [e]; rfl)) hy5
                have HS3 := Lib.hid s3
                clear s3 hsp2 hac hz k1
                go_wp2_with fail
                go_roundw
                case rel => exact ⟨j + 1, by go_num, by omega, HS3.out⟩
                case measure => simp [intOf]; omega
              · have i3 : ¬ ((j : Int) < (al : Int)) := by omega
                have HS4 := Lib.hid hsp2
                clear hsp2
                go_wp2_with fail
                go_roundw
                case rel => exact ⟨k + 1, by go_num, by have := HKL.out.2; omega, HS4.out⟩
                case measure => have := HKL.out.2; simp [intOf]; omega
          · have hke : k = G.length := by omega
            have i2 : ¬ ((k : Int) < (G.length : Int)) := by omega
            have HSP := Lib.hid hsp
            clear hsp
            go_wp2_with fail
            go_roundw
            case rel => exact ⟨i + 1, by go_num, HLT.out.2, by rw [HTK.out]; exact HINV.out _ HSP.out.bel, (hB1.trans HBW2.out).trans (HSP.out.bel.mono hB1.size)⟩
            case measure => have := HLT.out.2; have := HLL.out; simp [intOf]; omega
      · have hie : i = L.length := by omega
        have hit : L.take i = L := by rw [hie, List.take_length]
        rw [hit] at hinv
        have hbw := below_after hb1 hbr
        have HND := Lib.hid (HB.nodes w1.heap.size L _ wr hwz (HGB.below hbw) hinv (by omega))
        have i1 : ¬ ((i : Int) < (20 : Int)) := by omega
        have HTL := Lib.hid HT1
        clear hinv hit hLl
        go_wp2_with fail
        refine HND.out.mono ?_
        rintro e w3 ⟨v3, rfl, ho3, _, _, hb3⟩
        have hB3 : Below w1.heap.size w1 w3 := hbr.trans hb3
        have HTR := Lib.hid (treeR7_any L (.slice A 20 c) w3 ((HT1.out.stay hB3).mono fun b h => Nat.lt_of_lt_of_le h hB3.size) (by omega))
        have ht3 : Tree (· < w3.heap.size) w3 (nodesB (bldB L)) v3 := (OwnC.tree ho3 (Nat.le_refl _)).mono fun b h => h.2
        have HT3 := Lib.hid ht3
        clear ho3 ht3
        go_wp2_with fail
        refine HTR.out.mono ?_
        rintro e w4 ⟨v4, rfl, ht4, hb4⟩
        have hz4 := tree_sz L
        have hzn : szL (nodesB (bldB L)) ≤ szKs L := hz4
        have HSM := Lib.hid (sameR_any (nodesB (bldB L)) (treeB L) (· < w3.heap.size) (· < w4.heap.size) v3 v4 w4 (HT3.out.stay hb4) ht4 (fun k h => Nat.lt_of_lt_of_le h hb4.size) (fun k h => h) (by omega) (by omega))
        rw [(sameL_iff _ _).2 (show nodesB (bldB L) = treeB L from rfl)] at HSM
        have hc4 := below_after hb1 (below_after hB3 hb4)
        clear ht4
        go_wp2_with fail
        refine HSM.out.mono ?_
        rintro e w5 ⟨rfl, hb5⟩
        have hc5 := below_after hc4 hb5
        go_wp2_with fail
        refine (lives7_any HB _ (HGB.below hc5)).mono ?_
        rintro e w6 ⟨rfl, hb6⟩
        have hc6 := below_after hc5 hb6
        go_wp2_with fail
        go_ret
        exact ⟨rfl, hc6⟩
  · obtain ⟨L, rfl⟩ : ∃ L, L = out := ⟨_, rfl⟩
    have HKT := Lib.hid hkw
    have hLl : L.length = L.length := rfl
    have HLL := Lib.hid hLl
    have HT1 := Lib.hid ht1
    have i9 : ¬ ((20 : Int) < (L.length : Int)) := by omega
    clear ho1 ht1
    have hLs : szKs L ≤ 16800 := by omega
    clear hLl
    go_wp2_with fail
    refine (HB.new _ (HGB.below hb1)).mono ?_
    rintro e w2 ⟨a, rfl, hi2, hb2⟩
    go_wp2_with fail
    go_loopw [4] (fun y wr => KpRel Inv w1 L a y wr) (fun y _ => L.length - (intOf y).toNat)
    case atStart => exact ⟨0, rfl, Nat.zero_le _, hi2, hb2⟩
    case round =>
      have hLl := HLL.out
      obtain ⟨i, rfl, hi, hinv, hbr⟩ := hrel
      have hwz := hbr.size
      by_cases hlt : i < L.length
      · obtain ⟨b, o, c', hv, _, hb, hcell⟩ := HT1.out.open_ (by omega)
        injection hv with hA hnn hcc
        clear hnn
        subst hA
        subst hcc
        obtain ⟨t, ht⟩ : ∃ t, L[i]? = some t := ⟨_, List.getElem?_eq_getElem hlt⟩
        obtain ⟨va, hat⟩ := hcell i t ht
        have q0 : wr.cell? ⟨b, o + i * 4, none⟩ = some (.int .i64 t.kind) := (hbr.cell (p := ⟨b, o + i * 4, none⟩) hb).trans hat.c0
        have q1 : wr.cell? ⟨b, o + i * 4 + 1, none⟩ = some (.string t.name) := (hbr.cell (p := ⟨b, o + i * 4 + 1, none⟩) hb).trans hat.c1
        have q2 : wr.cell? ⟨b, o + i * 4 + 2, none⟩ = some va := (hbr.cell (p := ⟨b, o + i * 4 + 2, none⟩) hb).trans hat.c2
        have q3 : wr.cell? ⟨b, o + i * 4 + 3, none⟩ = some (.string t.text) := (hbr.cell (p := ⟨b, o + i * 4 + 3, none⟩) hb).trans hat.c3
        have htk : L.take (i + 1) = L.take i ++ [t] := by rw [List.take_add_one, ht, Option.toList_some]
        have hsz1 : szKs (L.take i ++ [t]) ≤ 40000 := by
          rw [← htk]
          have := szKs_split7 L (i + 1)
          omega
        have HPUT := Lib.hid (HB.put w1.heap.size (L.take i) (.pointer (some a)) wr t va hwz (HGB.below (below_after hb1 hbr)) hinv ((hat.at_.keep (Kept.belowB hbr fun b h => h)).mono fun b h => Nat.lt_of_lt_of_le h hwz) (HKT.out t (List.mem_of_getElem? ht)) hsz1)
        have HTK := Lib.hid htk
        obtain ⟨A3, c3, rfl, _, _⟩ := id hat.at_
        have i1 : (i : Int) < (L.length : Int) := by omega
        have HLT := Lib.hid (And.intro hi hlt)
        clear hcell ht hat htk hinv hLl hi hlt
        go_wp2_with fail
        refine HPUT.out.mono ?_
        rintro e W1 ⟨⟨x1, rfl⟩, hinv1, hbw1⟩
        have hB1 : Below w1.heap.size w1 W1 := hbr.trans hbw1
        have HTHA := Lib.hid (HB.nodes w1.heap.size _ _ W1 hB1.size (HGB.below (below_after hb1 hB1)) hinv1 hsz1)
        clear q0 q1 q2 q3 hinv1 hsz1
        go_wp2_with fail
        refine HTHA.out.mono ?_
        rintro e W2 ⟨v5, rfl, ho5, hth, hinv2, hbw2⟩
        have HINV := Lib.hid hinv2
        clear hinv2
        have HBW2 := Lib.hid hbw2
        obtain ⟨A5, c5, rfl, hc5⟩ := OwnT.shape ho5
        have hnl := szL_len (nodesB (bldB (L.take i ++ [t])))
        have hns := tree_sz (L.take i ++ [t])
        have hns2 : szKs (L.take i ++ [t]) ≤ 16800 := by
          rw [← HTK.out]
          have := szKs_split7 L (i + 1)
          omega
        obtain ⟨G, hG⟩ : ∃ G, nodesB (bldB (L.take i ++ [t])) = G := ⟨_, rfl⟩
        have hGz : szL G ≤ 16800 := by
          have : treeB (L.take i ++ [t]) = G := hG
          rw [this] at hns
          omega
        have hGl : G.length ≤ 16800 := by
          have : treeB (L.take i ++ [t]) = G := hG
          rw [this] at hns
          rw [hG] at hnl
          omega
        rw [hG] at ho5 hth hc5 ⊢
        have HO5 := Lib.hid ho5
        have HTH := Lib.hid hth
        clear ho5 hth hG hnl hns hns2
        obtain ⟨g, hg⟩ : ∃ g, ∀ A', A5 = some A' → A'.block = g := by
          cases A5 with
          | none => exact ⟨0, fun _ h => by cases h⟩
          | some A' => exact ⟨A'.block, fun _ h => by injection h with h; rw [h]⟩
        have HGG := Lib.hid hg
        clear hg
        go_wp2_with fail
        go_loopw [6] (fun y wr => MdRel W1 W2 g G.length y wr) (fun y _ => G.length - (intOf y).toNat)
        case atStart => exact ⟨0, rfl, Nat.zero_le _, SpAt.start _ _ g⟩
        case round =>
          obtain ⟨k, rfl, hk, hsp⟩ := hrel
          by_cases hlk : k < G.length
          · obtain ⟨m, hm⟩ : ∃ m, G[k]? = some m := ⟨_, List.getElem?_eq_getElem hlk⟩
            obtain ⟨g', va, rfl, hbg, hgl, hc2, hatt, ⟨x3, hx3⟩, ⟨x4, hx4⟩, hfz⟩ := OwnC.row HO5.out hm
            have hgg : g' = g := HGG.out _ rfl
            subst hgg
            obtain ⟨A6, c6, rfl, hc6, _⟩ := id hatt
            obtain ⟨y3, hy3⟩ := hsp.ex _ _ hx3
            obtain ⟨y4, hy4⟩ := hsp.ex _ _ hx4
            have f3 : ∀ j, wr.frozen? ⟨g', j, none⟩ = false := fun j => (hsp.fr _).trans (hfz j)
            have f33 := f3 (k * 5 + 3)
            have f34 := f3 (k * 5 + 4)
            have i2 : (k : Int) < (G.length : Int) := by omega
            have s1 := hsp.set ⟨g', k * 5 + 3, none⟩ (.string ⟨#[115, 112, 111, 105, 108, 101, 100]⟩) hbg (fun k' e => by injection e with _ e; omega) hy3
            have s2 := s1.set ⟨g', k * 5 + 4, none⟩ (.slice none 0 0) hbg (fun k' e => by injection e with _ e; omega) ((World.cell?_setCell_other _ _ _ _ (by intro e; injection e with _ e; omega)).trans hy4)
            have HSP := Lib.hid s2
            have HAT6 := Lib.hid hatt
            have HC2 := Lib.hid hc2
            have HKL := Lib.hid (And.intro hk hlk)
            obtain ⟨al, hal⟩ : ∃ al, m.attrs.length = al := ⟨_, rfl⟩
            have halz : al ≤ 16800 := by
              have h1 := szL_at hm
              rw [szN_eq] at h1
              have h2 := szA_len m.attrs
              omega
            rw [hal] at HC2
            have HAL := Lib.hid hal
            have q2 : wr.cell? ⟨g', k * 5 + 2, none⟩ = some (.slice A6 al c6) := (hsp.at2 k).trans HC2.out
            clear s1 s2 hatt hc2 hx3 hx4 hsp f3 hfz hm hal
            go_wp2_with fail
            go_loopw [7] (fun y wr => MdRel W1 W2 g' al y wr) (fun y _ => al - (intOf y).toNat)
            case atStart => exact ⟨0, rfl, Nat.zero_le _, HSP.out⟩
            case round =>
              obtain ⟨j, rfl, hj, hsp2⟩ := hrel
              have q5 : wr.cell? ⟨g', k * 5 + 2, none⟩ = some (.slice A6 al c6) := (hsp2.at2 k).trans HC2.out
              by_cases hja : j < al
              · obtain ⟨b2, o2, c2', hv2, _, hSb2, hac⟩ := HAT6.out.at_ (by rw [HAL.out]; omega)
                injection hv2 with hA2 hnn hcc2
                clear hnn
                subst hA2
                obtain ⟨z, hz⟩ : ∃ z, m.attrs[j]? = some z := ⟨_, List.getElem?_eq_getElem (by rw [HAL.out]; exact hja)⟩
                obtain ⟨_, k1⟩ := hac j z hz
                obtain ⟨y5, hy5⟩ := hsp2.ex _ _ k1
                have f5 : wr.frozen? ⟨b2, o2 + j * 2 + 1, none⟩ = false := (hsp2.fr _).trans (by have := HTH.out g' k b2 o2 al c6 HKL.out.2 rfl HC2.out (j * 2 + 1) (by omega); rwa [← Nat.add_assoc] at this)
                have i3 : (j : Int) < (al : Int) := by omega
                have i4 : (0 : Int) ≤ (j : Int) := by omega
                have i5 : (0 : Int) ≤ (k : Int) := by omega
                have s3 := hsp2.set ⟨b2, o2 + j * 2 + 1, none⟩ (.string ⟨#[115, 112, 111, 105, 108, 101, 100]⟩) hSb2.1 (fun k' e => by injection e with e _; exact hSb2.2.2 (by rw [e]; rfl)) hy5
                have HS3 := Lib.hid s3
                clear s3 hsp2 hac hz k1
                go_wp2_with fail
                go_roundw
                case rel => exact ⟨j + 1, by go_num, by omega, HS3.out⟩
                case measure => simp [intOf]; omega
              · have i3 : ¬ ((j : Int) < (al : Int)) := by omega
                have HS4 := Lib.hid hsp2
                clear hsp2
                go_wp2_with fail
                go_roundw
                case rel => exact ⟨k + 1, by go_num, by have := HKL.out.2; omega, HS4.out⟩
                case measure => have := HKL.out.2; simp [intOf]; omega
          · have hke : k = G.length := by omega
            have i2 : ¬ ((k : Int) < (G.length : Int)) := by omega
            have HSP := Lib.hid hsp
            clear hsp
            go_wp2_with fail
            go_roundw
            case rel => exact ⟨i + 1, by go_num, HLT.out.2, by rw [HTK.out]; exact HINV.out _ HSP.out.bel, (hB1.trans HBW2.out).trans (HSP.out.bel.mono hB1.size)⟩
            case measure => have := HLT.out.2; have := HLL.out; simp [intOf]; omega
      · have hie : i = L.length := by omega
        have hit : L.take i = L := by rw [hie, List.take_length]
        rw [hit] at hinv
        have hbw := below_after hb1 hbr
        have HND := Lib.hid (HB.nodes w1.heap.size L _ wr hwz (HGB.below hbw) hinv (by omega))
        have i1 : ¬ ((i : Int) < (L.length : Int)) := by omega
        have HTL := Lib.hid HT1
        clear hinv hit hLl
        go_wp2_with fail
        refine HND.out.mono ?_
        rintro e w3 ⟨v3, rfl, ho3, _, _, hb3⟩
        have hB3 : Below w1.heap.size w1 w3 := hbr.trans hb3
        have HTR := Lib.hid (treeR7_any L (.slice A L.length c) w3 ((HT1.out.stay hB3).mono fun b h => Nat.lt_of_lt_of_le h hB3.size) (by omega))
        have ht3 : Tree (· < w3.heap.size) w3 (nodesB (bldB L)) v3 := (OwnC.tree ho3 (Nat.le_refl _)).mono fun b h => h.2
        have HT3 := Lib.hid ht3
        clear ho3 ht3
        go_wp2_with fail
        refine HTR.out.mono ?_
        rintro e w4 ⟨v4, rfl, ht4, hb4⟩
        have hz4 := tree_sz L
        have hzn : szL (nodesB (bldB L)) ≤ szKs L := hz4
        have HSM := Lib.hid (sameR_any (nodesB (bldB L)) (treeB L) (· < w3.heap.size) (· < w4.heap.size) v3 v4 w4 (HT3.out.stay hb4) ht4 (fun k h => Nat.lt_of_lt_of_le h hb4.size) (fun k h => h) (by omega) (by omega))
        rw [(sameL_iff _ _).2 (show nodesB (bldB L) = treeB L from rfl)] at HSM
        have hc4 := below_after hb1 (below_after hB3 hb4)
        clear ht4
        go_wp2_with fail
        refine HSM.out.mono ?_
        rintro e w5 ⟨rfl, hb5⟩
        have hc5 := below_after hc4 hb5
        go_wp2_with fail
        refine (lives7_any HB _ (HGB.below hc5)).mono ?_
        rintro e w6 ⟨rfl, hb6⟩
        have hc6 := below_after hc5 hb6
        go_wp2_with fail
        go_ret
        exact ⟨rfl, hc6⟩

end Go.Proofs.Ytfdgmoakobjohaa

/- Part BldZ. -/
namespace Go.Proofs.Ytfdgmoakobjohaa
open Go.RowKit
set_option linter.unusedVariables false

theorem buildShape_whole (l : List Tk) (v : Value) (w : World) (hT : TokAt (· < w.heap.size) w l v) (hl : l.length ≤ maxLen) (hF : ∀ k ∈ l, FineK k) (HGB : Glob w) :
    Calls Try.prog 3 #[v] w fun e w' => e = .returned (.bool true) ∧ Below w.heap.size w w' := buildShape_end trees_said bld_said l v w hT hl hF HGB
theorem buildWeighs_whole (l : List Tk) (v : Value) (w : World) (hT : TokAt (· < w.heap.size) w l v) (hl : l.length ≤ maxLen) (hF : ∀ k ∈ l, FineK k) (HGB : Glob w) :
    Calls Try.prog 6 #[v] w fun e w' => e = .returned (.bool true) ∧ Below w.heap.size w w' := buildWeighs_end trees_said bld_said l v w hT hl hF HGB
theorem buildWraps_whole (l : List Tk) (v : Value) (w : World) (hT : TokAt (· < w.heap.size) w l v) (hl : l.length ≤ maxLen) (hF : ∀ k ∈ l, FineK k) (HGB : Glob w) :
    Calls Try.prog 5 #[v] w fun e w' => e = .returned (.bool true) ∧ Below w.heap.size w w' := buildWraps_end trees_said bld_said l v w hT hl hF HGB
theorem buildKeeps_whole (l : List Tk) (v : Value) (w : World) (hT : TokAt (· < w.heap.size) w l v) (hl : l.length ≤ maxLen) (hF : ∀ k ∈ l, FineK k) (HGB : Glob w) :
    Calls Try.prog 4 #[v] w fun e w' => e = .returned (.bool true) ∧ Below w.heap.size w w' := buildKeeps_end bld_said l v w hT hl hF HGB

end Go.Proofs.Ytfdgmoakobjohaa

/- Part Open. -/
namespace Go.Proofs.Ytfdgmoakobjohaa
open Go.RowKit Go.ChangeShapes Go.WideShapes Go.ChangeAt
set_option linter.unusedVariables false

theorem knob : ownKnob Try.prog.godebug = none := by kernel_rfl
theorem outlay : laidOutB Try.prog = true := by kernel_rfl

theorem cell_lt {w : World} {p : Addr} {v : Value} (h : w.cell? p = some v) : p.block < w.heap.size := by
  rcases Nat.lt_or_ge p.block w.heap.size with hlt | hge
  · exact hlt
  · unfold World.cell? at h
    rw [Array.getElem?_eq_none hge] at h
    cases h

/-- A row of integers as the reading of an argument gives it, in the walks' words. -/
theorem row_sits {w : World} {x : Addr} {k : IntKind} {len : Nat} {zs : List Int} (hl : len ≤ zs.length) (hcell : ∀ i, i < zs.length → w.cell? (x.add i) = some (.int k (zs.getD i 0))) :
    Sits w w.heap.size (some x) ((zs.take len).map (Value.int k)) := by
  intro hp
  rw [List.length_map, List.length_take] at hp
  have hc0 := hcell 0 (by omega)
  have hs : x.spot = none := by simpa [Addr.add] using World.cell?_spot hc0
  obtain ⟨b, o, sp⟩ := x
  simp only at hs
  subst hs
  refine ⟨b, o, rfl, by simpa [Addr.add] using cell_lt hc0, fun j u hu => ?_⟩
  rw [List.getElem?_map, List.getElem?_take] at hu
  split at hu
  · rename_i hj
    have hcj := hcell j (by omega)
    have e : (⟨b, o, none⟩ : Addr).add j = ⟨b, o + j, none⟩ := by
      unfold Addr.add
      split
      · rename_i h0; subst h0; rfl
      · rfl
    rw [e] at hcj
    rw [hcj]
    rw [List.getD_eq_getElem?_getD]
    cases hz : zs[j]? with
    | none => rw [hz] at hu; cases hu
    | some z => rw [hz] at hu; simpa using hu
  · cases hu

theorem open_bytes {H : Type} {enc : TypeId × Value → H} {w : World} {base : Nat} {spare : Nat → Bool} {held : Bool} {fuel len cap : Nat} {a : Option Addr} {x : DataW H × List MemPlace}
    (h : DataW.trod enc Try.prog w base spare held fuel 49 [.slice a len cap] = some x) (hsp : ∀ b, spare b = true) :
    ∃ l : List UInt8, len = l.length ∧ len ≤ cap ∧ len ≤ maxLen ∧ Sits w w.heap.size a (Lib.byteCells l) := by
  rcases open_ints Try.underlying49 Try.underlying5 (by kernel_rfl) h with ⟨hcs, _⟩ | ⟨y, l, c, zs, hcs, _, hl, hm, hz, _, hcell, hwz⟩
  · simp at hcs
    obtain ⟨rfl, rfl, rfl⟩ := hcs
    exact ⟨[], rfl, Nat.le_refl _, by unfold maxLen; omega, Sits.nil _ _ _⟩
  · simp at hcs
    obtain ⟨rfl, rfl, rfl⟩ := hcs
    rw [hsp, if_pos rfl] at hz
    refine ⟨(zs.take len).map fun n => UInt8.ofNat n.toNat, by simp; omega, hl, by omega, ?_⟩
    have hs := row_sits (len := len) (by omega) hcell
    have e : Lib.byteCells ((zs.take len).map fun n => UInt8.ofNat n.toNat) = (zs.take len).map (Value.int .u8) := by
      unfold Lib.byteCells
      rw [List.map_map]
      apply List.map_congr_left
      intro n hn
      have hb := bounds_u8 (hwz n (List.mem_of_mem_take hn))
      simp
      omega
    rw [e]
    exact hs

end Go.Proofs.Ytfdgmoakobjohaa

/- Part GlbO. -/
namespace Go.Proofs.Ytfdgmoakobjohaa
open Go.RowKit
set_option linter.unusedVariables false

theorem glob_of {w : World} (h : w.ShapedOpen Try.prog) : Glob w := trivial

end Go.Proofs.Ytfdgmoakobjohaa
