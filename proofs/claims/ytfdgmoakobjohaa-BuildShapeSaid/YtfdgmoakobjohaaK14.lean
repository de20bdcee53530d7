/- Parts of the proof, in build order: BdU BdZ BdF. -/
import Derived.Test.YtfdgmoakobjohaaK06
import Derived.Test.YtfdgmoakobjohaaK11
import Derived.BigQuiet
import Derived.RegionTactic
import Derived.Deep.RegionWith
import Derived.Deep.DeepCutAuto
import Derived.Test.YtfdgmoakobjohaaK13

/- Part BdU. -/
namespace Go.Proofs.Ytfdgmoakobjohaa
open Go.RowKit
set_option linter.unusedVariables false

/-- The cells of a node, stored one by one. -/
def put5 (W : World) (k : Nat) (a b c d e : Value) : World := ((((W.setCell ⟨k, 0, none⟩ a).setCell ⟨k, 1, none⟩ b).setCell ⟨k, 2, none⟩ c).setCell ⟨k, 3, none⟩ d).setCell ⟨k, 4, none⟩ e
theorem put5_off {W : World} {k : Nat} (a b c d e : Value) {S : Nat → Prop} (hk : ¬ S k) : Kept S W (put5 W k a b c d e) := by
  intro i hi j
  have hne : k ≠ i := fun h => hk (h ▸ hi)
  unfold put5
  have h1 : ∀ m : Nat, (⟨k, m, none⟩ : Addr) ≠ ⟨i, j, none⟩ := fun m h => hne (by injection h)
  rw [World.cell?_setCell_other _ _ _ _ (h1 4), World.cell?_setCell_other _ _ _ _ (h1 3), World.cell?_setCell_other _ _ _ _ (h1 2), World.cell?_setCell_other _ _ _ _ (h1 1), World.cell?_setCell_other _ _ _ _ (h1 0)]
theorem put5_heap {W : World} {k j : Nat} (a b c d e : Value) (hj : j ≠ k) : (put5 W k a b c d e).heap[j]? = W.heap[j]? := by
  unfold put5
  exact ((((heap_setCell_other _ ⟨k, 4, none⟩ j e hj).trans (heap_setCell_other _ ⟨k, 3, none⟩ j d hj)).trans (heap_setCell_other _ ⟨k, 2, none⟩ j c hj)).trans (heap_setCell_other _ ⟨k, 1, none⟩ j b hj)).trans (heap_setCell_other _ ⟨k, 0, none⟩ j a hj)
theorem put5_size (W : World) (k : Nat) (a b c d e : Value) : (put5 W k a b c d e).heap.size = W.heap.size := by simp [put5]
theorem Calm.setCell {F : Nat → Nat → Prop} {w W : World} (h : Calm F w W) {p : Addr} (hp : w.heap.size ≤ p.block) (v : Value) : Calm F w (W.setCell p v) := by
  refine ⟨h.os, h.tape, h.output, by rw [World.size_setCell]; exact h.size, fun j hj => ?_⟩
  rw [heap_setCell_other W p j v (by omega)]
  exact h.blk j hj
theorem Calm.put5 {F : Nat → Nat → Prop} {w W : World} (h : Calm F w W) {k : Nat} (hk : w.heap.size ≤ k) (a b c d e : Value) : Calm F w (put5 W k a b c d e) :=
  ((((h.setCell (p := ⟨k, 0, none⟩) hk a).setCell (p := ⟨k, 1, none⟩) hk b).setCell (p := ⟨k, 2, none⟩) hk c).setCell (p := ⟨k, 3, none⟩) hk d).setCell (p := ⟨k, 4, none⟩) hk e

theorem calm_grown {F : Nat → Nat → Prop} {w W W' : World} {row : Option Nat} (h : Calm F w W) (hg : W.grownBy W' row) (hr : ∀ g, row = some g → w.heap.size ≤ g) : Calm F w W' := by
  refine ⟨hg.os.trans h.os, hg.tape.trans h.tape, hg.output.trans h.output, Nat.le_trans h.size hg.size, fun k hk => ?_⟩
  rw [hg.block k (Nat.lt_of_lt_of_le hk h.size) (fun e => by have := hr k e.symm; omega)]
  exact h.blk k hk

/-- The result's own cells, as they were laid. -/
structure ResBox (w W : World) : Prop where
  hb : W.heap[w.heap.size]? = some (.cells #[.int .i64 0, .string ⟨#[]⟩, .slice none 0 0, .string ⟨#[]⟩, .slice none 0 0] 37 (0, 0))
  x0 : W.cell? ⟨w.heap.size, 0, none⟩ = some (.int .i64 0)
  x1 : W.cell? ⟨w.heap.size, 1, none⟩ = some (.string ⟨#[]⟩)
  x2 : W.cell? ⟨w.heap.size, 2, none⟩ = some (.slice none 0 0)
  x3 : W.cell? ⟨w.heap.size, 3, none⟩ = some (.string ⟨#[]⟩)
  x4 : W.cell? ⟨w.heap.size, 4, none⟩ = some (.slice none 0 0)
  f0 : W.frozen? ⟨w.heap.size, 0, none⟩ = false
  f1 : W.frozen? ⟨w.heap.size, 1, none⟩ = false
  f2 : W.frozen? ⟨w.heap.size, 2, none⟩ = false
  f3 : W.frozen? ⟨w.heap.size, 3, none⟩ = false
  f4 : W.frozen? ⟨w.heap.size, 4, none⟩ = false
theorem ResBox.of {w W : World} (h : W.heap[w.heap.size]? = some (.cells #[.int .i64 0, .string ⟨#[]⟩, .slice none 0 0, .string ⟨#[]⟩, .slice none 0 0] 37 (0, 0))) : ResBox w W :=
  ⟨h, cell_at h 0, cell_at h 1, cell_at h 2, cell_at h 3, cell_at h 4, froz_at h 0, froz_at h 1, froz_at h 2, froz_at h 3, froz_at h 4⟩

/-- A node, told. -/
def ToldN (F : Nat → Nat → Prop) (w : World) (n : Nd) (e : Ending) (w' : World) : Prop :=
  ∃ A c A2 c2, e = .returned (.agg #[.int .i64 n.kind, .string n.name, .slice A n.attrs.length c, .string n.text, .slice A2 n.kids.length c2]) ∧
    AttrsAt (fun b => w.heap.size ≤ b ∧ b < w'.heap.size) w' n.attrs (.slice A n.attrs.length c) ∧ FreeA w' (.slice A n.attrs.length c) ∧ Tree (fun b => w.heap.size ≤ b ∧ b < w'.heap.size) w' n.kids (.slice A2 n.kids.length c2) ∧ Calm F w w'
/-- Nodes, told. -/
def ToldL (F : Nat → Nat → Prop) (w : World) (l : List Nd) (e : Ending) (w' : World) : Prop :=
  ∃ v', e = .returned v' ∧ OwnF w' w.heap.size (fun b => w.heap.size ≤ b) l v' ∧ Calm F w w'

theorem told_elem {F : Nat → Nat → Prop} {n : Nd} {w w0 wb wa : World} {A1 A2 : Option Addr} {k1 k2 : Nat} (hk : n.kind = 1 ∧ n.text = ⟨#[]⟩) (hs : w0.heap.size = w.heap.size + 1) (hb0 : Below w.heap.size w w0)
    (ha : AttrsAt (fun b => w0.heap.size ≤ b ∧ b < wb.heap.size) wb n.attrs (.slice A1 n.attrs.length k1)) (hf : FreeA wb (.slice A1 n.attrs.length k1)) (hbb : Below w0.heap.size w0 wb) (hca : Calm F wb wa) (hbx : wa.heap[w.heap.size]? = some (.cells #[.int .i64 0, .string ⟨#[]⟩, .slice none 0 0, .string ⟨#[]⟩, .slice none 0 0] 37 (0, 0))) (ho : OwnF wa wb.heap.size (fun b => wb.heap.size ≤ b) n.kids (.slice A2 n.kids.length k2)) (a b c d e : Value) :
    ToldN F w n (.returned (.agg #[.int .i64 1, .string n.name, .slice A1 n.attrs.length k1, .string ⟨#[]⟩, .slice A2 n.kids.length k2])) (put5 wa w.heap.size a b c d e) := by
  have h1 := hbb.size
  have h2 := hca.size
  refine ⟨A1, k1, A2, k2, by rw [hk.1, hk.2], ?_, fun b' o m q hv => ?_, ?_, ((Calm.below hb0).trans ((Calm.below hbb).trans hca)).put5 (Nat.le_refl _) a b c d e⟩
  · have := ((ha.keep (hca.kept fun b hb => hb.2)).keep (put5_off (W := wa) (k := w.heap.size) a b c d e (by intro h; omega)))
    exact this.mono fun b hb => ⟨by omega, by rw [put5_size]; omega⟩
  · obtain ⟨cur, hc⟩ := (hf.calm hca) b' o m q hv
    refine ⟨cur, (put5_heap a b c d e ?_).trans hc⟩
    intro e1
    subst e1
    rw [hbx] at hc
    injection hc with hc
    injection hc with _ hc
    exact absurd hc (by decide)
  · have ht := OwnK.tree ho.ownK fun b hb => hb
    exact ((ht.keep (put5_off (W := wa) (k := w.heap.size) a b c d e (by intro h; omega))).mono fun b hb => ⟨by omega, by rw [put5_size]; omega⟩)

theorem told_leaf {F : Nat → Nat → Prop} {n : Nd} {w wa : World} {kd : Int} {tx : ByteArray} (hk : n.kind = kd) (hn : n.name = ⟨#[]⟩) (ha : n.attrs = []) (hc : n.kids = []) (ht : n.text = tx) (h : Calm F w wa) (a b c d e : Value) :
    ToldN F w n (.returned (.agg #[.int .i64 kd, .string ⟨#[]⟩, .slice none 0 0, .string tx, .slice none 0 0])) (put5 wa w.heap.size a b c d e) := by
  refine ⟨none, 0, none, 0, by rw [hk, hn, ht, ha, hc]; rfl, ?_, (fun b' o m q hv => by cases hv), ?_, h.put5 (Nat.le_refl _) a b c d e⟩
  · rw [ha]; exact AttrsAt.nil _ _
  · rw [hc]; exact Tree.nil _ _

theorem Tree.nilc (S : Nat → Prop) (w : World) : Tree S w [] (.slice none ([] : List Nd).length 0) := Tree.nil S w
theorem nd_eta (n : Nd) : n = .mk n.kind n.name n.attrs n.text n.kids := by cases n; rfl

set_option maxHeartbeats 4000000 in
set_option maxRecDepth 100000 in
theorem toldN_any (F : Nat → Nat → Prop) (r : Rp) (w : World) (hF : ∀ k m, F k m → k < w.heap.size) (hO : POne (· < w.heap.size) F w r) (hz : szN r.n ≤ 100000)
    (hT : ∀ W, Calm F w W → Calls Try.prog 22 #[r.vk] W (ToldL F W r.n.kids)) :
    Calls Try.prog 29 #[.pointer (some ⟨r.g, 0, none⟩)] w (ToldN F w r.n) := by
  have mixed : Try.prog.follows Departure.mixedOrders = true := by kernel_rfl
  obtain ⟨hg, ⟨c0, c1, c2, c3, c5, c6⟩, hkn, hat, hkids⟩ := hO
  rw [szN_eq] at hz
  have hz1 := szA_len r.n.attrs
  obtain ⟨n, g, va, vk, pre, bv, mo⟩ := r
  obtain ⟨Ak, ck, hvk, _⟩ := hkids.shape
  obtain ⟨Aa, ca, hva, _, _⟩ := id hat
  simp only at *
  subst hvk
  subst hva
  obtain ⟨w0, hw0⟩ : ∃ w0, w.alloc (.cells #[.int .i64 0, .string ⟨#[]⟩, .slice none 0 0, .string ⟨#[]⟩, .slice none 0 0] 37) = w0 := ⟨_, rfl⟩
  have hb0 : Below w.heap.size w w0 := by rw [← hw0]; exact below_new _ _
  have hs0 : w0.heap.size = w.heap.size + 1 := by rw [← hw0]; simp
  have hbx0 : w0.heap[w.heap.size]? = some (.cells #[.int .i64 0, .string ⟨#[]⟩, .slice none 0 0, .string ⟨#[]⟩, .slice none 0 0] 37 (0, 0)) := by rw [← hw0]; exact box_here w _ _
  -- what is so in every world from here on
  have HM := Lib.hid (fun (W : World) (h : Calm F w0 W) => (⟨(h.cell (p := ⟨g, 0, none⟩) (by show g < _; omega)).trans ((hb0.cell (p := ⟨g, 0, none⟩) hg).trans c0), (h.cell (p := ⟨g, 1, none⟩) (by show g < _; omega)).trans ((hb0.cell (p := ⟨g, 1, none⟩) hg).trans c1),
    (h.cell (p := ⟨g, 2, none⟩) (by show g < _; omega)).trans ((hb0.cell (p := ⟨g, 2, none⟩) hg).trans c2), (h.cell (p := ⟨g, 3, none⟩) (by show g < _; omega)).trans ((hb0.cell (p := ⟨g, 3, none⟩) hg).trans c3), (h.cell (p := ⟨g, 5, none⟩) (by show g < _; omega)).trans ((hb0.cell (p := ⟨g, 5, none⟩) hg).trans c5),
    (h.cell (p := ⟨g, 6, none⟩) (by show g < _; omega)).trans ((hb0.cell (p := ⟨g, 6, none⟩) hg).trans c6), ResBox.of (h.same hbx0 (fun c fz e => by injection e with _ e; exact absurd e (by decide)))⟩ :
      W.cell? ⟨g, 0, none⟩ = some (.int .i64 (tkd n.kind)) ∧ W.cell? ⟨g, 1, none⟩ = some (.string n.name) ∧ W.cell? ⟨g, 2, none⟩ = some (.slice Aa n.attrs.length ca) ∧ W.cell? ⟨g, 3, none⟩ = some (.string pre) ∧ W.cell? ⟨g, 5, none⟩ = some bv ∧ W.cell? ⟨g, 6, none⟩ = some (.slice Ak n.kids.length ck) ∧
      ResBox w W))
  have HCM := Lib.hid (fun (W : World) (h : Calm F w0 W) => (Calm.below (F := F) hb0).trans h)
  obtain ⟨d0, d1, d2, d3, d5, d6, _⟩ := HM.out w0 (Calm.refl _ _)
  have HAT := Lib.hid hat
  have HB0 := Lib.hid hb0
  have HS0 := Lib.hid hs0
  have HTT := Lib.hid hT
  clear hkids c0 c1 c2 c3 c5 c6 hT hbx0 hat
  cases hkn with
  | elem hk ht =>
    simp only at hk ht
    have htk : tkd n.kind = 1 := by rw [hk]; rfl
    rw [htk] at d0
    have HK := Lib.hid (And.intro hk ht)
    have HFR := Lib.hid (fun (W : World) (h : Calm F w0 W) => fresh_any n.attrs (.slice Aa n.attrs.length ca) W ((HAT.out.keep (((Calm.below (F := F) HB0.out).trans h).kept fun b h => h)).mono fun b hb => Nat.lt_of_lt_of_le hb (Nat.le_trans HB0.out.size h.size)) (by omega))
    clear hk ht htk
    go_enter Try.func29, Try.ntmps29
    go_upto_region 1 with fail
    clear hw0 hb0 hs0
    go_upto_region 3 with fail
    have hdr : Calm F w0 w0.drew := Calm.below ((Below.refl _ _).drew)
    go_region_with (first
      | (go_at_call 22; refine (HTT.out _ (HCM.out _ hcb)).mono ?_; rintro e wa ⟨v2, rfl, ho2, hca⟩; obtain ⟨A2, k2, rfl, _⟩ := OwnT.shape ho2.ownK; have hcc := hcb.trans hca; obtain ⟨y0, y1, y2, y3, y5, y6, ⟨hbx, x0, x1, x2, x3, x4, f0, f1, f2, f3, f4⟩⟩ := HM.out wa hcc; have HBX := Lib.hid hbx; clear hbx)
      | (go_at_call 37; refine (HFR.out _ hdr).mono ?_; rintro e wb ⟨A1, k1, rfl, ha1, hf1, hbb⟩; have hcb := hdr.trans (Calm.below hbb); obtain ⟨z0, z1, z2, z3, z5, z6, _⟩ := HM.out wb hcb))
    all_goals go_wp2_with fail
    all_goals refine bodyPost_ret (v := .agg #[.int .i64 1, .string n.name, .slice A1 n.attrs.length k1, .string ⟨#[]⟩, .slice A2 n.kids.length k2]) ?_ rfl ?_
    all_goals first
      | exact told_elem HK.out HS0.out HB0.out ha1 hf1 (((Below.refl _ w0).drew).trans hbb) hca HBX.out ho2 _ _ _ _ _
      | simp [results, Try.f29, go_sem, x0, x1, x2, x3, x4]
  | text hk hn ha hc ht hb hFb =>
    simp only at hk hn ha hc ht hb hFb
    have htk : tkd n.kind = 3 := by rw [hk]; rfl
    rw [htk] at d0
    have hbb := hb.calm (Calm.below (F := F) HB0.out)
    obtain ⟨ms, hms⟩ : ∃ ms : ByteArray, (⟨mo.toArray⟩ : ByteArray) = ms := ⟨_, rfl⟩
    have hsz : pre.size + ms.size ≤ 100000 := by
      have h1 : n.text.size = pre.size + ms.size := by rw [ht, hms, ByteArray.size_append]
      omega
    have HST := Lib.hid (fun (W : World) (h : Calm F w0 W) => string7_any F g bv mo W (HM.out W h).2.2.2.2.1 (hbb.calm h) hFb)
    rw [hms] at ht HST
    have HK := Lib.hid (And.intro hk (And.intro hn (And.intro ha (And.intro hc ht))))
    have i5 : ¬ (9223372036854775807 < pre.size + ms.size) := by omega
    clear hk hn ha hc ht hb hFb htk hbb hms hsz
    go_enter Try.func29, Try.ntmps29
    go_upto_region 1 with fail
    clear hw0 hb0 hs0
    go_upto_region 5 with fail
    have hdr : Calm F w0 w0.drew := Calm.below ((Below.refl _ _).drew)
    go_region_with (first
      | (go_at_call 41; refine (HST.out _ hdr).mono ?_; rintro e wa ⟨rfl, hca'⟩; have hca := hdr.trans hca'; obtain ⟨y0, y1, y2, y3, y5, y6, ⟨hbx, x0, x1, x2, x3, x4, f0, f1, f2, f3, f4⟩⟩ := HM.out wa hca))
    all_goals go_wp2_with fail
    all_goals refine bodyPost_ret (v := .agg #[.int .i64 2, .string ⟨#[]⟩, .slice none 0 0, .string (pre ++ ms), .slice none 0 0]) ?_ rfl ?_
    all_goals first
      | exact told_leaf HK.out.1 HK.out.2.1 HK.out.2.2.1 HK.out.2.2.2.1 HK.out.2.2.2.2 (HCM.out _ hca) _ _ _ _ _
      | simp [results, Try.f29, go_sem, x0, x1, x2, x3, x4]
  | comm hk hn ha hc ht =>
    simp only at hk hn ha hc ht
    have htk : tkd n.kind = 4 := by rw [hk]; rfl
    rw [htk] at d0
    obtain ⟨_, x0, x1, x2, x3, x4, f0, f1, f2, f3, f4⟩ : ResBox w w0 := (HM.out w0 (Calm.refl _ _)).2.2.2.2.2.2
    have HK := Lib.hid (And.intro hk (And.intro hn (And.intro ha (And.intro hc ht))))
    clear hk hn ha hc ht htk
    go_enter Try.func29, Try.ntmps29
    go_upto_region 1 with fail
    clear hw0 hb0 hs0
    go_wp2_with fail
    refine bodyPost_ret (v := .agg #[.int .i64 3, .string ⟨#[]⟩, .slice none 0 0, .string pre, .slice none 0 0]) ?_ rfl ?_
    all_goals first
      | exact told_leaf HK.out.1 HK.out.2.1 HK.out.2.2.1 HK.out.2.2.2.1 HK.out.2.2.2.2 (HCM.out _ (Calm.refl _ _)) _ _ _ _ _
      | simp [results, Try.f29, go_sem, x0, x1, x2, x3, x4]

/-! ### the list -/
structure ToldAt (F : Nat → Nat → Prop) (w wr : World) (l : List Nd) (k : Nat) (v : Value) : Prop where
  le : k ≤ l.length
  own : OwnF wr w.heap.size (fun b => w.heap.size ≤ b) (l.take k) v
  calm : Calm F w wr
def ToldRel (F : Nat → Nat → Prop) (w : World) (l : List Nd) (x y : Value) (wr : World) : Prop := ∃ k : Nat, y = .int .i64 k ∧ ToldAt F w wr l k x

set_option maxHeartbeats 4000000 in
set_option maxRecDepth 100000 in
theorem toldL_any (F : Nat → Nat → Prop) : ∀ (l : List Nd) (v : Value) (w : World), (∀ k m, F k m → k < w.heap.size) → PTree (· < w.heap.size) F w l v → szL l ≤ 100000 →
    Calls Try.prog 22 #[v] w (ToldL F w l) := by
  refine sz_ind fun l ih => ?_
  intro v w hF hT hsz
  have hlen := szL_len l
  obtain ⟨A, c, rfl, hc⟩ := hT.shape
  have HT := Lib.hid hT
  have HIH := Lib.hid ih
  have HFL := Lib.hid hF
  clear hT ih hF
  go_enter Try.func22, Try.ntmps22
  go_wp2_with fail
  go_loopw [3, 8] (fun x y wr => ToldRel F w l x y wr) (fun _ y _ => l.length - (intOf y).toNat)
  case atStart => exact ⟨0, rfl, by omega, OwnF.nil _ _ _, Calm.refl _ _⟩
  case round =>
    obtain ⟨k, rfl, HR⟩ := hrel
    have hk := HR.le
    have HO := Lib.hid HR.own
    have HC := Lib.hid HR.calm
    clear HR
    by_cases hlt : k < l.length
    · obtain ⟨b, o, r, hA, hb, hcell, hn, hone⟩ := HT.out.at_ hlt
      subst hA
      have q0 : wr.cell? ⟨b, o + k, none⟩ = some (.pointer (some ⟨r.g, 0, none⟩)) := (HC.out.cell (p := ⟨b, o + k, none⟩) hb).trans hcell
      have hzn := szL_at hn
      have hkz : szL r.n.kids < szL l := by rw [szN_eq] at hzn; omega
      have hone' : POne (· < wr.heap.size) F wr r := (hone.keep (KeptB.calm HC.out (fun b h => h) HFL.out)).mono (fun b h => Nat.lt_of_lt_of_le h HC.out.size) fun _ _ h => h
      have hF' : ∀ k m, F k m → k < wr.heap.size := fun k m h => Nat.lt_of_lt_of_le (HFL.out k m h) HC.out.size
      have HN := Lib.hid (toldN_any F r wr hF' hone' (by omega) fun W hW => HIH.out r.n.kids hkz r.vk W (fun k m h => Nat.lt_of_lt_of_le (hF' k m h) hW.size)
        ((hone'.kids.keep (KeptB.calm hW (fun b h => h) hF')).mono (fun b h => Nat.lt_of_lt_of_le h hW.size) fun _ _ h => h) (by omega))
      have HTK := Lib.hid (show l.take (k + 1) = l.take k ++ [r.n] by rw [List.take_add_one, hn, Option.toList_some])
      have i1 : (k : Int) < (l.length : Int) := by omega
      have i2 : (0 : Int) ≤ (k : Int) := by omega
      have hk4 : k + 1 ≤ l.length := hlt
      have hwsz : w.heap.size ≤ wr.heap.size := HC.out.size
      have htl : (l.take k).length ≤ 1000000 := by rw [List.length_take]; omega
      obtain ⟨out, hout⟩ : ∃ out, l.take k = out := ⟨_, rfl⟩
      rw [hout] at HTK HO htl
      obtain ⟨nn, hnn⟩ : ∃ nn, r.n = nn := ⟨_, rfl⟩
      rw [hnn] at HN HTK
      clear hcell hn hone hone' hF' hzn hkz hout hnn
      go_wp2_with fail
      refine HN.out.mono ?_
      rintro e w1 ⟨A1, k1, A2, k2, rfl, hat, hfr, htr, hcm⟩
      have hO1 := HO.out.calm hcm
      have hs1 := hcm.size
      obtain ⟨o3, ho3⟩ : ∃ o3 : Obj, Obj.cells #[.int .i64 nn.kind, .string nn.name, .slice A1 nn.attrs.length k1, .string nn.text, .slice A2 nn.kids.length k2] 37 = o3 := ⟨_, rfl⟩
      have hbn := below_new w1 o3
      have hcn : Calm F w1 (w1.alloc o3) := Calm.below hbn
      have hSS : ∀ b, (wr.heap.size ≤ b ∧ b < w1.heap.size) → SubK (fun b => w.heap.size ≤ b) (w1.alloc o3) u3 b := fun b hb => ⟨by show w.heap.size ≤ b; omega, by rw [World.size_alloc]; omega, fun e => by have := (HO.out.lt _ e).2; omega⟩
      have HO1 := Lib.hid (hO1.calm hcn)
      have HAT := Lib.hid ((hat.keep (Kept.below hbn fun b h => h.2)).mono hSS)
      have HTR := Lib.hid ((htr.keep (Kept.below hbn fun b h => h.2)).mono hSS)
      have HFR := Lib.hid (hfr.calm hcn)
      have HCN := Lib.hid ((HC.out.trans hcm).trans hcn)
      have HN5 := Lib.hid (new_five w1 37 ⟨nn, .slice A1 nn.attrs.length k1, .slice A2 nn.kids.length k2⟩)
      rw [← ho3] at HO1 HAT HTR HFR HCN
      have hbase : w.heap.size ≤ (w1.alloc (Obj.cells #[.int .i64 nn.kind, .string nn.name, .slice A1 nn.attrs.length k1, .string nn.text, .slice A2 nn.kids.length k2] 37)).heap.size := by rw [World.size_alloc]; omega
      clear hat hfr htr hcm hO1 hbn hcn hSS ho3
      go_wp2_with (at_builtin; refine wpList_append_nodeF rfl _ _ rfl w.heap.size _ out _ rfl HO1.out ⟨nn, .slice A1 nn.attrs.length k1, .slice A2 nn.kids.length k2⟩ ⟨w1.heap.size, 0, none⟩ 1 rfl HN5.out HAT.out HTR.out HFR.out htl hbase ?_; intro v' w5 hown5 hg5)
      have hc5 : Calm F w w5 := calm_grown HCN.out hg5 (fun g hg => (HO1.out.lt g hg).1)
      have HO5 := Lib.hid hown5
      clear hown5 hg5
      go_roundw
      case rel => exact ⟨k + 1, by go_num, hk4, by rw [HTK.out]; exact HO5.out, hc5⟩
      case measure => simp [intOf]; omega
    · have hke : k = l.length := by omega
      have i1 : ¬ ((k : Int) < (l.length : Int)) := by omega
      have HE := Lib.hid (show ToldL F w l (.returned u3) wr from ⟨u3, rfl, by have := HO.out; rw [hke, List.take_length] at this; exact this, HC.out⟩)
      clear hlt
      go_wp2_with fail
      go_ret
      exact HE.out

end Go.Proofs.Ytfdgmoakobjohaa

/- Part BdZ. -/
namespace Go.Proofs.Ytfdgmoakobjohaa
open Go.RowKit
set_option linter.unusedVariables false

/-! ### the document's deeds -/
theorem put_begin (b : Bst) (k : Tk) (h : k.kind = 1) : putB b k = beginB b k.name k.attrs := by
  unfold putB beginB
  rw [if_pos h]
theorem put_end (b : Bst) (k : Tk) (h : k.kind = 2) : putB b k = endB b k.name := by
  unfold putB endB
  rw [if_neg (by rw [h]; decide), if_pos h]
theorem put_chars (b : Bst) (k : Tk) (h : k.kind = 3) : putB b k = addTo b (textN k.text) := by
  unfold putB
  rw [if_neg (by rw [h]; decide), if_neg (by rw [h]; decide), if_pos h]
theorem put_remark (b : Bst) (k : Tk) (h : k.kind = 4) : putB b k = addTo b (remN k.text) := by
  unfold putB
  rw [if_neg (by rw [h]; decide), if_neg (by rw [h]; decide), if_neg (by rw [h]; decide), if_pos h]
theorem put_other (b : Bst) (k : Tk) (h1 : k.kind ≠ 1) (h2 : k.kind ≠ 2) (h3 : k.kind ≠ 3) (h4 : k.kind ≠ 4) : putB b k = b := by
  unfold putB
  rw [if_neg h1, if_neg h2, if_neg h3, if_neg h4]

theorem dG_1 : dG 1 = some 25 := by decide
theorem dG_2 : dG 2 = some 26 := by decide
theorem dG_3 : dG 3 = some 27 := by decide
theorem dG_4 : dG 4 = some 28 := by decide
theorem dG_0 {k : Int} (h1 : k ≠ 1) (h2 : k ≠ 2) (h3 : k ≠ 3) (h4 : k ≠ 4) : dG k = none := by
  unfold dG updI
  rw [if_neg h4, if_neg h3, if_neg h2, if_neg h1]

/-- The builder of which tokens were built, in memory. -/
def InvB (lo : Nat) (ts : List Tk) (v : Value) (w : World) : Prop := ∃ a, v = .pointer (some ⟨a, 0, none⟩) ∧ IsAtB lo a (bldB ts) (2 * ts.length) w
theorem bldB_snoc (ts : List Tk) (k : Tk) : bldB (ts ++ [k]) = putB (bldB ts) k := by unfold bldB; rw [List.foldl_append]; rfl
theorem bldB_sz (ts : List Tk) : szB (bldB ts) ≤ szKs ts := by
  have := puts_sz ts ⟨[], []⟩
  have h0 : szB ⟨[], []⟩ = 0 := by unfold szB; rw [szL_nil]; rfl
  unfold bldB
  omega
theorem szK_parts (k : Tk) : k.name.size ≤ szK k ∧ k.text.size ≤ szK k ∧ 10 * k.attrs.length ≤ szK k := by
  have := szA_len k.attrs
  unfold szK
  exact ⟨by omega, by omega, by omega⟩

set_option maxHeartbeats 2000000 in
set_option maxRecDepth 100000 in
theorem put_any (lo : Nat) (ts : List Tk) (v : Value) (w : World) (k : Tk) (va : Value) (hlo : lo ≤ w.heap.size) (h : InvB lo ts v w) (hat : AttrsAt (· < w.heap.size) w k.attrs va) (hkw : Kw k) (hz : szKs (ts ++ [k]) ≤ 40000) :
    Calls Try.prog 12 #[v, tokV k va] w fun e w' => (∃ x, e = .returned x) ∧ InvB lo (ts ++ [k]) v w' ∧ Below lo w w' := by
  have mixed : Try.prog.follows Departure.mixedOrders = true := by kernel_rfl
  obtain ⟨a, rfl, hi⟩ := h
  have hzz := hz
  rw [szKs_append] at hzz
  have hzk : szKs ts + szK k ≤ 40000 := by simp only [szKs] at hzz; omega
  have hbz : szB (bldB ts) ≤ 40000 := by have := bldB_sz ts; omega
  have htl : 10 * ts.length ≤ 40000 := by have := szKs_len ts; omega
  obtain ⟨hk1, hk2, hk3⟩ := szK_parts k
  obtain ⟨A, c, hva, _, _⟩ := id hat
  obtain ⟨kd, nm, attrs, tx⟩ := k
  simp only at hva hk1 hk2 hk3 hat
  subst hva
  obtain ⟨al, hal⟩ : ∃ al, attrs.length = al := ⟨_, rfl⟩
  obtain ⟨w1, hw1⟩ : ∃ w1, w.alloc (.cells #[.int .i64 kd, .string nm, .slice A al c, .string tx] 34) = w1 := ⟨_, rfl⟩
  have hb1 : Below w.heap.size w w1 := by rw [← hw1]; exact below_new _ _
  have hbx : w1.heap[w.heap.size]? = some (.cells #[.int .i64 kd, .string nm, .slice A al c, .string tx] 34 (0, 0)) := by rw [← hw1]; exact box_here w _ _
  have hwl : w.heap.size < w1.heap.size := by rw [← hw1]; simp
  -- what each deed does, in whatever world from here on
  have HD := Lib.hid (fun (W : World) (hW : Below w.heap.size w W) (e : Ending) (w' : World) (b' : Bst) (h : Did lo a b' (2 * ts.length + 2) W e w') (hb' : b' = putB (bldB ts) ⟨kd, nm, attrs, tx⟩) =>
    (⟨h.1, ⟨a, rfl, by rw [bldB_snoc, List.length_append, ← hb']; exact h.2.1⟩, (hW.mono hlo).trans h.2.2⟩ : (∃ x, e = .returned x) ∧ InvB lo (ts ++ [⟨kd, nm, attrs, tx⟩]) (.pointer (some ⟨a, 0, none⟩)) w' ∧ Below lo w w'))
  have HIS := Lib.hid (fun (W : World) (hW : Below w.heap.size w W) => (hi.less (M := 2 * ts.length + 2) (by omega)).keep hW)
  have HAT := Lib.hid (fun (W : World) (hW : Below w.heap.size w W) => (hat.keep (Kept.belowB hW fun b h => h)).mono fun b hb => (Nat.lt_of_lt_of_le hb hW.size : b < W.heap.size))
  have HI0 := Lib.hid hi
  have hlw : ∀ W : World, Below w.heap.size w W → lo ≤ W.heap.size := fun W hW => Nat.le_trans hlo hW.size
  have HLW := Lib.hid hlw
  have hdr : Below w.heap.size w w1.drew := hb1.drew
  have x0 : w1.drew.cell? ⟨w.heap.size, 0, none⟩ = some (.int .i64 kd) := cell_at hbx 0
  have HKW := Lib.hid (show (Lit.int .i64 kd).wf = true from hkw)
  have HMM := Lib.hid (fun (W : World) (hW : Below w1.drew.heap.size w1.drew W) => (⟨below_after hdr hW, (hW.cell (p := ⟨w.heap.size, 0, none⟩) hwl).trans (show w1.drew.cell? ⟨w.heap.size, 0, none⟩ = _ from cell_at hbx 0), (hW.cell (p := ⟨w.heap.size, 1, none⟩) hwl).trans (show w1.drew.cell? ⟨w.heap.size, 1, none⟩ = _ from cell_at hbx 1), (hW.cell (p := ⟨w.heap.size, 2, none⟩) hwl).trans (show w1.drew.cell? ⟨w.heap.size, 2, none⟩ = _ from cell_at hbx 2), (hW.cell (p := ⟨w.heap.size, 3, none⟩) hwl).trans (show w1.drew.cell? ⟨w.heap.size, 3, none⟩ = _ from cell_at hbx 3)⟩ :
    Below w.heap.size w W ∧ W.cell? ⟨w.heap.size, 0, none⟩ = some (.int .i64 kd) ∧ W.cell? ⟨w.heap.size, 1, none⟩ = some (.string nm) ∧ W.cell? ⟨w.heap.size, 2, none⟩ = some (.slice A al c) ∧ W.cell? ⟨w.heap.size, 3, none⟩ = some (.string tx)))
  unfold tokV
  simp only
  rw [hal]
  have HAL := Lib.hid hal
  have hN : 2 * ts.length + 2 ≤ 900000 := by omega
  have hways : kd = 1 ∨ kd = 2 ∨ kd = 3 ∨ kd = 4 ∨ (kd ≠ 1 ∧ kd ≠ 2 ∧ kd ≠ 3 ∧ kd ≠ 4) := by
    by_cases h1 : kd = 1
    · exact .inl h1
    · by_cases h2 : kd = 2
      · exact .inr (.inl h2)
      · by_cases h3 : kd = 3
        · exact .inr (.inr (.inl h3))
        · by_cases h4 : kd = 4
          · exact .inr (.inr (.inr (.inl h4)))
          · exact .inr (.inr (.inr (.inr ⟨h1, h2, h3, h4⟩)))
  clear hi hat hlw hdr hbx hb1 hwl hkw hz hzz hal
  rcases hways with rfl | rfl | rfl | rfl | ⟨h1, h2, h3, h4⟩
  · go_enter Try.func12, Try.ntmps12
    go_upto_region 1 with fail
    go_region_with (first
      | (go_at_call 21; refine (deeds_any _).mono ?_; rintro e w2 ⟨B, rfl, hD, hb2⟩; have hlk := hD.look 1 HKW.out; rw [dG_1] at hlk; have hlk2 : (Instr.lookup 59 (.map (some B)) (.int .i64 1) true).run Try.prog w2 = .ok (.tuple #[.func (.func 25) #[] #[], .bool true]) w2 := hlk; obtain ⟨hbw, y0, y1, y2, y3⟩ := HMM.out w2 hb2; clear hlk))
    all_goals go_wp2_with fail
    all_goals have hbg := begin_anyB (HI0.out.keep hbw) nm tx attrs A c (HAT.out w2 hbw) (by omega) (by omega) (by omega) (by omega) (HLW.out w2 hbw)
    all_goals rw [HAL.out] at hbg
    all_goals refine hbg.mono ?_
    all_goals rintro e w3 hd
    all_goals have he := HD.out w2 hbw e w3 _ hd (put_begin (bldB ts) ⟨1, nm, attrs, tx⟩ rfl).symm
    all_goals obtain ⟨x, rfl⟩ := he.1
    all_goals have HE := Lib.hid he.2
    all_goals clear he hd
    all_goals go_wp2_with fail
    all_goals go_end0
    all_goals exact ⟨⟨_, rfl⟩, HE.out⟩
  · go_enter Try.func12, Try.ntmps12
    go_upto_region 1 with fail
    go_region_with (first
      | (go_at_call 21; refine (deeds_any _).mono ?_; rintro e w2 ⟨B, rfl, hD, hb2⟩; have hlk := hD.look 2 HKW.out; rw [dG_2] at hlk; have hlk2 : (Instr.lookup 59 (.map (some B)) (.int .i64 2) true).run Try.prog w2 = .ok (.tuple #[.func (.func 26) #[] #[], .bool true]) w2 := hlk; obtain ⟨hbw, y0, y1, y2, y3⟩ := HMM.out w2 hb2; clear hlk))
    all_goals go_wp2_with fail
    all_goals refine (end_anyB (HIS.out w2 hbw) nm tx A al c (by omega) (by omega) (by omega) (HLW.out w2 hbw)).mono ?_
    all_goals rintro e w3 hd
    all_goals have he := HD.out w2 hbw e w3 _ hd (put_end (bldB ts) ⟨2, nm, attrs, tx⟩ rfl).symm
    all_goals obtain ⟨x, rfl⟩ := he.1
    all_goals have HE := Lib.hid he.2
    all_goals clear he hd
    all_goals go_wp2_with fail
    all_goals go_end0
    all_goals exact ⟨⟨_, rfl⟩, HE.out⟩
  · go_enter Try.func12, Try.ntmps12
    go_upto_region 1 with fail
    go_region_with (first
      | (go_at_call 21; refine (deeds_any _).mono ?_; rintro e w2 ⟨B, rfl, hD, hb2⟩; have hlk := hD.look 3 HKW.out; rw [dG_3] at hlk; have hlk2 : (Instr.lookup 59 (.map (some B)) (.int .i64 3) true).run Try.prog w2 = .ok (.tuple #[.func (.func 27) #[] #[], .bool true]) w2 := hlk; obtain ⟨hbw, y0, y1, y2, y3⟩ := HMM.out w2 hb2; clear hlk))
    all_goals go_wp2_with fail
    all_goals refine (chars_anyB (HIS.out w2 hbw) nm tx A al c (by omega) (by omega) (HLW.out w2 hbw)).mono ?_
    all_goals rintro e w3 hd
    all_goals have he := HD.out w2 hbw e w3 _ hd (put_chars (bldB ts) ⟨3, nm, attrs, tx⟩ rfl).symm
    all_goals obtain ⟨x, rfl⟩ := he.1
    all_goals have HE := Lib.hid he.2
    all_goals clear he hd
    all_goals go_wp2_with fail
    all_goals go_end0
    all_goals exact ⟨⟨_, rfl⟩, HE.out⟩
  · go_enter Try.func12, Try.ntmps12
    go_upto_region 1 with fail
    go_region_with (first
      | (go_at_call 21; refine (deeds_any _).mono ?_; rintro e w2 ⟨B, rfl, hD, hb2⟩; have hlk := hD.look 4 HKW.out; rw [dG_4] at hlk; have hlk2 : (Instr.lookup 59 (.map (some B)) (.int .i64 4) true).run Try.prog w2 = .ok (.tuple #[.func (.func 28) #[] #[], .bool true]) w2 := hlk; obtain ⟨hbw, y0, y1, y2, y3⟩ := HMM.out w2 hb2; clear hlk))
    all_goals go_wp2_with fail
    all_goals refine (remark_anyB (HIS.out w2 hbw) nm tx A al c (by omega) (HLW.out w2 hbw)).mono ?_
    all_goals rintro e w3 hd
    all_goals have he := HD.out w2 hbw e w3 _ hd (put_remark (bldB ts) ⟨4, nm, attrs, tx⟩ rfl).symm
    all_goals obtain ⟨x, rfl⟩ := he.1
    all_goals have HE := Lib.hid he.2
    all_goals clear he hd
    all_goals go_wp2_with fail
    all_goals go_end0
    all_goals exact ⟨⟨_, rfl⟩, HE.out⟩
  · go_enter Try.func12, Try.ntmps12
    go_upto_region 1 with fail
    go_region_with (first
      | (go_at_call 21; refine (deeds_any _).mono ?_; rintro e w2 ⟨B, rfl, hD, hb2⟩; have hlk := hD.look kd HKW.out; rw [dG_0 h1 h2 h3 h4] at hlk; have hlk2 : (Instr.lookup 59 (.map (some B)) (.int .i64 kd) true).run Try.prog w2 = .ok (.tuple #[.nilFunc, .bool false]) w2 := hlk; obtain ⟨hbw, y0, y1, y2, y3⟩ := HMM.out w2 hb2; clear hlk))
    all_goals have HE := Lib.hid (HD.out w2 hbw (.returned (.tuple #[])) w2 _ ⟨⟨_, rfl⟩, HIS.out w2 hbw, Below.refl _ _⟩ (put_other _ _ h1 h2 h3 h4).symm)
    all_goals clear h1 h2 h3 h4
    all_goals go_wp2_with fail
    all_goals go_end0
    all_goals exact HE.out

/-! ### Open -/
theorem info_strZ : (Try.prog.info? 9).map (fun i => (i.zero, i.size, i.bytes)) = some (some (.string ⟨#[]⟩), 1, 16) := by kernel_rfl
def OpRelB (w : World) (names : List ByteArray) (x y : Value) (wr : World) : Prop := ∃ k : Nat, y = .int .i64 k ∧ k ≤ names.length ∧ wr.ownsRow w.heap.size 9 1 x k ((names.take k).map Value.string) ∧ Below w.heap.size w wr
theorem fs_one {lo : Nat} {Q : Nat → Prop} {w : World} {R0 : List Rp} {vk0 : Value} : ∀ {fs : List Fm} {P : Nat → Prop} {inn : List Nat}, FsAt lo Q w R0 vk0 P inn fs → ∀ f ∈ fs, P f.g ∧ w.heap[f.g]? = some (.cells (fmBlk f) 54 (0, 0))
  | [], P, inn, _, f, hf => by cases hf
  | g :: fs, P, inn, ⟨h1, h2, _, _, _, h6⟩, f, hf => by
    rcases List.mem_cons.1 hf with rfl | hf
    · exact ⟨h1, h2⟩
    · have := fs_one h6 f hf
      exact ⟨this.1.1, this.2⟩

set_option maxHeartbeats 2000000 in
set_option maxRecDepth 100000 in
theorem open_anyB (lo : Nat) (ts : List Tk) (v : Value) (w : World) (hlo : lo ≤ w.heap.size) (h : InvB lo ts v w) (hz : szKs ts ≤ 40000) :
    Calls Try.prog 20 #[v] w fun e w' => ∃ A c, e = .returned (.slice A (opensB ts).length c) ∧ (opensB ts).length ≤ c ∧ Cells (· < w'.heap.size) w' A ((opensB ts).map Value.string) ∧ InvB lo ts v w' ∧ Below w.heap.size w w' := by
  obtain ⟨a, rfl, hi⟩ := h
  have HI := Lib.hid (fun (W : World) (hW : Below w.heap.size w W) => (⟨a, rfl, hi.keep hW⟩ : InvB lo ts (.pointer (some ⟨a, 0, none⟩)) W))
  obtain ⟨P, Q, s, hsa, hsb, _, _, h5, _⟩ := hi
  have hfl : s.fs.length ≤ 40000 := fs_small (by rw [hsb]; have := bldB_sz ts; omega : szB (s.bst []) ≤ 40000)
  have hnames : opensB ts = s.fs.reverse.map Fm.name := by
    unfold opensB
    rw [← hsb, List.map_reverse, List.map_reverse]
    unfold Stt.bst
    rw [bst_names]
  obtain ⟨A7, c7, hov, _⟩ := own_size h5.opn
  have e7 : w.cell? ⟨a, 7, none⟩ = some (.slice A7 s.fs.length c7) := by rw [← hsa]; exact (cell_at h5.blk 7).trans (by rw [← hov]; rfl)
  have hcl := Cells.own (hov ▸ h5.opn)
  have hnl : (opensB ts).length = s.fs.length := by rw [hnames]; simp
  have HROW := Lib.hid (fun k (hk : k < s.fs.length) => (by
    obtain ⟨b, o, hA, hb, hx⟩ := hcl (by simp; omega)
    obtain ⟨f, hf⟩ : ∃ f, s.fs.reverse[k]? = some f := ⟨_, List.getElem?_eq_getElem (by simpa using hk)⟩
    have hfm : f ∈ s.fs := by have := List.mem_of_getElem? hf; simpa using this
    have h7 := fs_one h5.frs f hfm
    have hbl : b < w.heap.size := (h5.lo b (.inr (.inr (.inr (.inr (.inl (by rw [hov]; exact hb))))))).2
    refine ⟨b, o, f.g, f.name, hA, hbl, (h5.lo f.g (.inl h7.1)).2, hx k _ (by rw [List.getElem?_map, hf]; rfl), cell_at h7.2 1, by rw [hnames, List.getElem?_map, hf]; rfl⟩ :
    ∃ b o g nm, A7 = some ⟨b, o, none⟩ ∧ b < w.heap.size ∧ g < w.heap.size ∧ w.cell? ⟨b, o + k, none⟩ = some (.pointer (some ⟨g, 0, none⟩)) ∧ w.cell? ⟨g, 1, none⟩ = some (.string nm) ∧ (opensB ts)[k]? = some nm))
  obtain ⟨m, hm⟩ : ∃ m, s.fs.length = m := ⟨_, rfl⟩
  rw [hm] at e7 hfl HROW hnl
  obtain ⟨i0, hi0, hz0, hz1, hz2⟩ := info_parts info_strZ
  obtain ⟨names, hnn⟩ : ∃ l, opensB ts = l := ⟨_, rfl⟩
  rw [hnn] at HROW hnl ⊢
  have HNL := Lib.hid hnl
  clear h5 hov hcl hnames hnn hsa hsb hm hnl
  go_enter Try.func20, Try.ntmps20
  go_wp2_with fail
  go_loopw [3, 11] (fun x y wr => OpRelB w names x y wr) (fun _ y _ => m - (intOf y).toNat)
  case atStart => exact ⟨0, rfl, Nat.zero_le _, World.ownsRow_nil _ _ _ _, Below.refl _ _⟩
  case round =>
    obtain ⟨k, rfl, hk, hown, hbr⟩ := hrel
    have hkm : k ≤ m := by rw [← HNL.out]; exact hk
    by_cases hlt : k < m
    · obtain ⟨b, o, g, nm, rfl, hb, hg, q1, q2, hnk⟩ := HROW.out k hlt
      have r1 : wr.cell? ⟨b, o + k, none⟩ = some (.pointer (some ⟨g, 0, none⟩)) := (hbr.cell (p := ⟨b, o + k, none⟩) hb).trans q1
      have r2 : wr.cell? ⟨g, 1, none⟩ = some (.string nm) := (hbr.cell (p := ⟨g, 1, none⟩) hg).trans q2
      have i1 : (k : Int) < (m : Int) := by omega
      have i2 : (0 : Int) ≤ (k : Int) := by omega
      have hwz := hbr.size
      have hrun0 := own_below hown (below_new wr (.cells #[.string nm] 9))
      have HRUN : ∃ v' w', (Builtin.append_ #[45, 45] 45 #[u3, .slice (some ⟨wr.heap.size, 0, none⟩) 1 1]).run Try.prog (wr.alloc (.cells #[.string nm] 9)) = .ok v' w' ∧ OpRelB w names v' (.int .i64 ((k + 1 : Nat) : Int)) w' := by
        obtain ⟨v', w', hrun, own', hgr, _⟩ := run_append_new (w := wr.alloc (.cells #[.string nm] 9)) w.heap.size 45 45 9 i0 _ 1 16 Try.underlying45 hi0 hz0 hz1 hz2 rfl (by decide) u3 k ((names.take k).map Value.string) hrun0 ⟨wr.heap.size, 0, none⟩ 1 1 [.string nm] rfl (new_one wr _ _) (fun u hu => by simp at hu; subst hu; rfl) (by unfold maxLen; omega) (by omega) (by rw [World.size_alloc]; omega)
        refine ⟨v', w', hrun, k + 1, rfl, by rw [HNL.out]; omega, ?_, ?_⟩
        · rw [List.take_add_one, hnk, Option.toList_some, List.map_append]
          exact own'
        · exact (hbr.alloc hwz _).grown hgr (by rw [World.size_alloc]; omega) fun g hg => (hown.lt g hg).1
      obtain ⟨v', w', hrun, hrel'⟩ := HRUN
      have HREL := Lib.hid hrel'
      clear hrel' hrun0 hown hnk q1 q2 hk
      go_wp2_with (at_builtin; refine wpList_run_append2 rfl _ _ rfl _ _ _ rfl rfl hrun ?_)
      go_roundw
      case rel => exact HREL.out
      case measure => simp [intOf]; omega
    · have hke : k = m := by omega
      have i1 : ¬ ((k : Int) < (m : Int)) := by omega
      obtain ⟨A, c, rfl, hc⟩ := own_size hown
      have hnm : names.length = k := by rw [HNL.out, hke]
      have hE : Cells (· < wr.heap.size) wr A (names.map Value.string) := by
        have := (Cells.own hown).mono (S' := fun x => x < wr.heap.size) fun b hb => (hown.lt b hb).2
        rw [← hnm, List.take_length] at this
        exact this
      have HE := Lib.hid (And.intro hE (And.intro (HI.out wr hbr) hbr))
      have HC := Lib.hid (And.intro hc hnm)
      clear hown hE hbr hc hnm
      go_wp2_with fail
      go_ret
      exact ⟨A, c, by rw [HNL.out]; rfl, by rw [HC.out.2]; exact HC.out.1, HE.out.1, HE.out.2.1, HE.out.2.2⟩

end Go.Proofs.Ytfdgmoakobjohaa

/- Part BdF. -/
namespace Go.Proofs.Ytfdgmoakobjohaa
open Go.RowKit
set_option linter.unusedVariables false

/-! ### New -/
theorem new_state (w : World) : InvB w.heap.size [] (.pointer (some ⟨w.heap.size + 1, 0, none⟩)) ((w.alloc (.map #[] 0)).alloc (.cells #[.int .i64 0, .string ⟨#[]⟩, .slice none 0 0, .string ⟨#[]⟩, .pointer none, .slice none 0 0, .slice none 0 0, .slice none 0 0, .map (some w.heap.size)] 56)) := by
  obtain ⟨W, hW⟩ : ∃ W, (w.alloc (.map #[] 0)).alloc (.cells #[.int .i64 0, .string ⟨#[]⟩, .slice none 0 0, .string ⟨#[]⟩, .pointer none, .slice none 0 0, .slice none 0 0, .slice none 0 0, .map (some w.heap.size)] 56) = W := ⟨_, rfl⟩
  have hblk : W.heap[w.heap.size + 1]? = some (.cells #[.int .i64 0, .string ⟨#[]⟩, .slice none 0 0, .string ⟨#[]⟩, .pointer none, .slice none 0 0, .slice none 0 0, .slice none 0 0, .map (some w.heap.size)] 56 (0, 0)) := by
    rw [← hW]
    exact alloc_here' (by rw [World.size_alloc])
  have hsz : W.heap.size = w.heap.size + 2 := by rw [← hW]; simp
  have hc : CntAt W w.heap.size 0 (fun _ => 0) := by
    rw [← hW]
    exact (CntAt.made w).kept (Below.heap_alloc _ _ _ (by simp))
  rw [hW]
  have hX : ∀ b, (⟨w.heap.size + 1, w.heap.size, 0, .slice none 0 0, .slice none 0 0, [], [], none⟩ : Stt).X b → b = w.heap.size + 1 ∨ b = w.heap.size := by
    rintro b (h | h | h | ⟨t, h, _⟩)
    · exact .inl h
    · exact .inr h
    · cases h
    · cases h
  refine ⟨w.heap.size + 1, rfl, fun _ => False, fun _ => False, ⟨w.heap.size + 1, w.heap.size, 0, .slice none 0 0, .slice none 0 0, [], [], none⟩, rfl, rfl, Nat.le_refl _, fun _ => rfl, ⟨hblk, World.ownsRow_nil _ _ _ _, hc, ⟨⟨World.ownsRow_nil _ _ _ _, fun b hb => (by cases hb)⟩, fun r hr => (by cases hr)⟩, fun t ht => (by cases ht), fun b hb => hb.elim, fun b hb => hb.elim, fun b hb => hb.elim, fun b hb => ?_⟩, fun k hk => hk.elim⟩
  rcases hb with hb | hb | hb
  · exact hb.elim
  · exact hb.elim
  · rcases hX b hb with h | h <;> subst h <;> omega

set_option maxHeartbeats 1000000 in
set_option maxRecDepth 100000 in
theorem new_any (w : World) : Calls Try.prog 11 #[] w fun e w' => ∃ a, e = .returned (.pointer (some a)) ∧ InvB w.heap.size [] (.pointer (some a)) w' ∧ Below w.heap.size w w' := by
  have hmm := @run_makeMap Try.prog
  have HE := Lib.hid (And.intro (new_state w) (((Below.refl _ w).alloc (Nat.le_refl _) (.map #[] 0)).alloc (by simp) (.cells #[.int .i64 0, .string ⟨#[]⟩, .slice none 0 0, .string ⟨#[]⟩, .pointer none, .slice none 0 0, .slice none 0 0, .slice none 0 0, .map (some w.heap.size)] 56)))
  go_enter Try.func11, Try.ntmps11
  go_wp2_with fail
  go_ret
  exact ⟨_, rfl, HE.out.1, HE.out.2⟩

/-! ### Nodes -/
theorem calm_bel {F : Nat → Nat → Prop} {w w' w'' : World} (h : Calm F w w') (hb : Below w.heap.size w' w'') : Calm F w w'' := by
  refine ⟨hb.os.trans h.os, hb.tape.trans h.tape, hb.output.trans h.output, Nat.le_trans h.size hb.size, fun k hk => ?_⟩
  rw [hb.block k hk]
  exact h.blk k hk
theorem thaw_of {w : World} {base : Nat} {P : Nat → Prop} {l : List Nd} {v : Value} (h : OwnF w base P l v) : Thaw w l v := by
  obtain ⟨R, hl, hown, _, _, hf⟩ := h
  intro g k b o n c hk hg hc j hj
  have hkR : k < R.length := by rw [← hl, List.length_map] at hk; exact hk
  obtain ⟨r, hr⟩ : ∃ r, R[k]? = some r := ⟨_, List.getElem?_eq_getElem hkR⟩
  obtain ⟨A, c', hv, _⟩ := own_size hown
  subst hv
  obtain ⟨rfl, _⟩ : A = some ⟨g, 0, none⟩ ∧ True := by
    rcases hown.2 with ⟨h1, _⟩ | ⟨g', cap, cur, h1, _⟩
    · injection h1 with h1
      rw [h1] at hg
      cases hg
    · injection h1 with h1
      rw [h1] at hg
      injection hg with hg
      rw [h1, ← hg]
      exact ⟨rfl, trivial⟩
  have h2 := (hown.cellAt (k * 5 + 2) (by omega)).trans (ncells_at hr).2.2.1
  rw [hc] at h2
  injection h2 with h2
  obtain ⟨cur, hh⟩ := hf r (List.mem_of_getElem? hr) b o n c h2.symm
  exact froz_at hh _
/-- All of it, as nodes that are looked at. -/
theorem StAt.ptree {lo : Nat} {P Q : Nat → Prop} {s : Stt} {w : World} (h : StAt lo P Q s [] w) : PTree (· < w.heap.size) (fun k m => (lo ≤ k ∧ k < w.heap.size) ∧ s.F k m) w (nodesB (s.bst [])) s.vk0 := by
  have hf := h.frs
  rw [List.append_nil, ← s.tr_g] at hf
  have := FsAt.tree (T := (· < w.heap.size)) (F := fun k m => (lo ≤ k ∧ k < w.heap.size) ∧ s.F k m) (fun b hb => (h.lo b (.inr (.inl hb))).2) (fun k m hk => ⟨h.lo k (.inr (.inl hk)), fun t ht hb => absurd (.inr (.inr (.inr ⟨t, ht, .inr hb⟩)) : s.X k) (h.qx k hk)⟩) hf (fun b hb => (h.lo b (.inl hb)).2) (fun r hr => by
    unfold Stt.tr at hr
    cases ht : s.tl with
    | none => rw [ht] at hr; cases hr
    | some t =>
      rw [ht] at hr
      simp at hr
      subst hr
      have hX : ∀ k, (k = t.g ∨ t.bv.ownBlock = some k) → lo ≤ k ∧ k < w.heap.size := fun k hk => h.lo k (.inr (.inr (.inr (.inr (.inr ⟨t, ht, hk⟩)))))
      exact Tl.one (h.tl t ht) (hX _ (.inl rfl)).2 fun k hk => ⟨hX k (.inr hk), fun t' ht' _ => by rw [ht] at ht'; injection ht' with ht'; subst ht'; exact Nat.le_refl _⟩)
  rw [s.tr_n] at this
  unfold Stt.bst
  rw [clsL_nodes, List.append_nil]
  exact this

set_option maxHeartbeats 1000000 in
set_option maxRecDepth 100000 in
theorem nodes_anyB (lo : Nat) (ts : List Tk) (v : Value) (w : World) (hlo : lo ≤ w.heap.size) (h : InvB lo ts v w) (hz : szKs ts ≤ 40000) :
    Calls Try.prog 13 #[v] w fun e w' => ∃ v', e = .returned v' ∧ OwnC w' w.heap.size w.heap.size (nodesB (bldB ts)) v' ∧ Thaw w' (nodesB (bldB ts)) v' ∧ (∀ w'', Below w.heap.size w' w'' → InvB lo ts v w'') ∧ Below lo w w' := by
  obtain ⟨a, rfl, P, Q, s, hsa, hsb, h3, h4, h5, h6⟩ := h
  have hp := h5.ptree
  obtain ⟨F, hF⟩ : ∃ F : Nat → Nat → Prop, (fun k m => (lo ≤ k ∧ k < w.heap.size) ∧ s.F k m) = F := ⟨_, rfl⟩
  rw [hF, hsb] at hp
  have hF1 : ∀ k m, F k m → lo ≤ k ∧ k < w.heap.size := by rw [← hF]; exact fun k m h => h.1
  have hF2 : ∀ k m, F k m → s.F k m := by rw [← hF]; exact fun k m h => h.2
  have htz := tree_sz ts
  have HT := Lib.hid (toldL_any F (nodesB (bldB ts)) s.vk0 w (fun k m h => (hF1 k m h).2) hp (by have : szL (nodesB (bldB ts)) ≤ szKs ts := htz; omega))
  have c6 : w.cell? ⟨a, 6, none⟩ = some s.vk0 := by rw [← hsa]; exact cell_at h5.blk 6
  obtain ⟨Ak, ck, hvk, _⟩ := hp.shape
  have HE := Lib.hid (fun (e : Ending) (w' : World) (h : ToldL F w (nodesB (bldB ts)) e w') => (by
    obtain ⟨v', rfl, ho, hc⟩ := h
    exact ⟨v', rfl, ho.ownK, thaw_of ho, fun w'' hb => ⟨a, rfl, P, Q, s, hsa, hsb, h3, h4, h5.calm (calm_bel hc hb) hF2, h6⟩, hc.bel hlo fun k m hk => (hF1 k m hk).1⟩ :
    ∃ v', e = .returned v' ∧ OwnC w' w.heap.size w.heap.size (nodesB (bldB ts)) v' ∧ Thaw w' (nodesB (bldB ts)) v' ∧ (∀ w'', Below w.heap.size w' w'' → InvB lo ts (.pointer (some ⟨a, 0, none⟩)) w'') ∧ Below lo w w'))
  rw [hvk] at c6 HT
  clear hp hF hF1 hF2 htz h5 h6 hvk h3 h4 hsa hsb
  go_enter Try.func13, Try.ntmps13
  go_wp2_with fail
  refine HT.out.mono ?_
  rintro e w1 ht
  obtain ⟨v', rfl, h1, h2, h3, h4⟩ := HE.out e w1 ht
  have HR := Lib.hid (And.intro h1 (And.intro h2 (And.intro h3 h4)))
  clear h1 h2 h3 h4 ht
  go_wp2_with fail
  go_ret
  exact ⟨v', rfl, HR.out.1, HR.out.2.1, HR.out.2.2.1, HR.out.2.2.2⟩

theorem bld_said : BldSaid InvB where
  new := fun w _ => new_any w
  put := fun lo ts v w k va hlo _ h hat hkw hz => put_any lo ts v w k va hlo h hat hkw hz
  nodes := fun lo ts v w hlo _ h hz => nodes_anyB lo ts v w hlo h hz
  open_ := fun lo ts v w hlo _ h hz => open_anyB lo ts v w hlo h hz

/-! ### Tree -/
def TrRelB (w : World) (l : List Tk) (v : Value) (y : Value) (wr : World) : Prop := ∃ k : Nat, y = .int .i64 k ∧ k ≤ l.length ∧ InvB w.heap.size (l.take k) v wr ∧ Below w.heap.size w wr

set_option maxHeartbeats 4000000 in
set_option maxRecDepth 100000 in
theorem trees_said : TreesSaid := by
  intro l v w _ hT hkw hsz
  obtain ⟨A, c, rfl, hc⟩ := hT.shape
  have hlen := szKs_len l
  have HT := Lib.hid hT
  have HKW := Lib.hid hkw
  clear hT hkw
  go_enter Try.func8, Try.ntmps8
  go_wp2_with fail
  refine (new_any w).mono ?_
  rintro e w1 ⟨a, rfl, hi1, hb1⟩
  go_wp2_with fail
  go_loopw [9] (fun y wr => TrRelB w l (.pointer (some a)) y wr) (fun y _ => l.length - (intOf y).toNat)
  case atStart => exact ⟨0, rfl, Nat.zero_le _, hi1, hb1⟩
  case round =>
    obtain ⟨k, rfl, hk, hinv, hbr⟩ := hrel
    have hwz := hbr.size
    by_cases hlt : k < l.length
    · obtain ⟨b, o, c', hv, _, hb, hcell⟩ := HT.out.open_ (by omega)
      injection hv with hA hnn hcc
      clear hnn
      subst hA
      subst hcc
      obtain ⟨t, ht⟩ : ∃ t, l[k]? = some t := ⟨_, List.getElem?_eq_getElem hlt⟩
      obtain ⟨va, hat⟩ := hcell k t ht
      have q0 : wr.cell? ⟨b, o + k * 4, none⟩ = some (.int .i64 t.kind) := (hbr.cell (p := ⟨b, o + k * 4, none⟩) hb).trans hat.c0
      have q1 : wr.cell? ⟨b, o + k * 4 + 1, none⟩ = some (.string t.name) := (hbr.cell (p := ⟨b, o + k * 4 + 1, none⟩) hb).trans hat.c1
      have q2 : wr.cell? ⟨b, o + k * 4 + 2, none⟩ = some va := (hbr.cell (p := ⟨b, o + k * 4 + 2, none⟩) hb).trans hat.c2
      have q3 : wr.cell? ⟨b, o + k * 4 + 3, none⟩ = some (.string t.text) := (hbr.cell (p := ⟨b, o + k * 4 + 3, none⟩) hb).trans hat.c3
      have htk : l.take (k + 1) = l.take k ++ [t] := by rw [List.take_add_one, ht, Option.toList_some]
      have hsz1 : szKs (l.take k ++ [t]) ≤ 40000 := by
        rw [← htk]
        have : szKs l = szKs (l.take (k + 1)) + szKs (l.drop (k + 1)) := by rw [← szKs_append, List.take_append_drop]
        omega
      have HPUT := Lib.hid (fun (W : World) (hW : Below wr.heap.size wr W) => put_any w.heap.size (l.take k) (.pointer (some a)) W t va (Nat.le_trans hwz hW.size) (by
        obtain ⟨a', ha', hi⟩ := hinv
        exact ⟨a', ha', hi.keep hW⟩) ((hat.at_.keep (Kept.belowB (hbr.trans (hW.mono hwz)) fun b h => h)).mono fun b h => Nat.lt_of_lt_of_le h (Nat.le_trans hwz hW.size)) (HKW.out t (List.mem_of_getElem? ht)) hsz1)
      have HTK := Lib.hid htk
      obtain ⟨A3, c3, rfl, _, _⟩ := id hat.at_
      have i1 : (k : Int) < (l.length : Int) := by omega
      have i2 : (0 : Int) ≤ (k : Int) := by omega
      have hbw : b < wr.heap.size := Nat.lt_of_lt_of_le hb hwz
      have hbn : b ≠ wr.heap.size := by omega
      have HBR := Lib.hid hbr
      clear hcell ht hat htk hinv hbr
      go_wp2_with fail
      refine (HPUT.out _ (below_new _ _)).mono ?_
      rintro e w3 ⟨⟨x, rfl⟩, hi3, hb3⟩
      have HI3 := Lib.hid (show InvB w.heap.size (l.take (k + 1)) (.pointer (some a)) w3 by rw [HTK.out]; exact hi3)
      have HB3 := Lib.hid ((HBR.out.alloc hwz _).trans hb3)
      clear hi3 hb3 q0 q1 q2 q3
      go_wp2_with fail
      go_roundw
      case rel => exact ⟨k + 1, by go_num, hlt, HI3.out, HB3.out⟩
      case measure => simp [intOf]; omega
    · have hke : k = l.length := by omega
      have hit : l.take k = l := by rw [hke, List.take_length]
      rw [hit] at hinv
      have i1 : ¬ ((k : Int) < (l.length : Int)) := by omega
      have HN := Lib.hid (nodes_anyB w.heap.size l (.pointer (some a)) wr hwz hinv hsz)
      have HBR := Lib.hid hbr
      clear hinv hit hbr
      go_wp2_with fail
      refine HN.out.mono ?_
      rintro e w3 ⟨v3, rfl, ho3, _, _, hb3⟩
      have HE := Lib.hid (show Tree (· < w3.heap.size) w3 (treeB l) v3 from (OwnC.tree ho3 (Nat.le_refl _)).mono fun b h => h.2)
      have HB3 := Lib.hid (HBR.out.trans hb3)
      clear ho3 hb3
      go_wp2_with fail
      go_ret
      exact ⟨v3, rfl, HE.out, HB3.out⟩

end Go.Proofs.Ytfdgmoakobjohaa
