/- WriteJoins: its walk. -/
import Derived.Test.YtenjhfkdbmljnaaWLawB
import Derived.Test.YtenjhfkdbmljnaaTreeJ
import Derived.Test.YtenjhfkdbmljnaaGood
namespace Go.Proofs.Ytenjhfkdbmljnaa
open Go.RowKit
set_option linter.unusedVariables false
set_option linter.unusedSimpArgs false

def tB (l : List UInt8) : ByteArray := ⟨l.toArray⟩
theorem tB_app (a b : List UInt8) : tB (a ++ b) = tB a ++ tB b := by
  apply ByteArray.ext
  apply Array.toList_inj.1
  simp [tB]
theorem tB_size (l : List UInt8) : (tB l).size = l.length := by simp [tB, ByteArray.size]

def Ret (v : Value) (W : World) (e : Ending) (w' : World) : Prop := e = .returned v ∧ Below W.heap.size W w'

theorem text_det (S : Nat → Prop) (l : List Nd) (v : Value) (w : World) (hT : Tree S w l v) (hS : ∀ b, S b → b < w.heap.size) (hsz : szL l ≤ 140000) :
    Calls Try.prog 8 #[v] w (Ret (.string (tB (txtL false l))) w) := by
  refine (text_any S l v w hT hS hsz).mono ?_
  rintro e w' ⟨s, rfl, hs, hb⟩
  rw [lit_of hs]
  exact ⟨rfl, hb⟩
theorem open_det (S : Nat → Prop) (n : Nd) (va vk : Value) (w : World) (hat : AttrsAt S w n.attrs va) (hkt : Tree S w n.kids vk) (hS : ∀ b, S b → b < w.heap.size) (hsz : szN n ≤ 140000) :
    Calls Try.prog 12 #[.agg #[.int .i64 n.kind, .string n.name, va, .string n.text, vk]] w (Ret (.string (tB (openE n))) w) := by
  refine (open_any S n va vk w hat hkt hS hsz).mono ?_
  rintro e w' ⟨s, rfl, hs, hb⟩
  rw [lit_of hs]
  exact ⟨rfl, hb⟩
theorem close_det (S : Nat → Prop) (n : Nd) (va vk : Value) (w : World) (hat : AttrsAt S w n.attrs va) (hkt : Tree S w n.kids vk) (hS : ∀ b, S b → b < w.heap.size) (hsz : szN n ≤ 140000) :
    Calls Try.prog 13 #[.agg #[.int .i64 n.kind, .string n.name, va, .string n.text, vk]] w (Ret (.string (tB (closeE n))) w) := by
  refine (close_any S n va vk w hat hkt hS hsz).mono ?_
  rintro e w' ⟨s, rfl, hs, hb⟩
  rw [lit_of hs]
  exact ⟨rfl, hb⟩

/-- The three lists' texts and lengths. -/
def JF (w : World) (vb vx vy : Value) : Prop :=
  ∃ s1 s2 : ByteArray, s1.size ≤ 470400 ∧ s2.size ≤ 470400 ∧ (∀ W, Below w.heap.size w W → Calls Try.prog 8 #[vb] W (Ret (.string (s1 ++ s2)) W)) ∧
      (∀ W, Below w.heap.size w W → Calls Try.prog 8 #[vx] W (Ret (.string s1) W)) ∧ (∀ W, Below w.heap.size w W → Calls Try.prog 8 #[vy] W (Ret (.string s2) W)) ∧
      (∀ W, Below w.heap.size w W → Calls Try.prog 9 #[vb] W (Ret (.int .i64 ((s1.size : Int) + (s2.size : Int))) W)) ∧
      (∀ W, Below w.heap.size w W → Calls Try.prog 9 #[vx] W (Ret (.int .i64 (s1.size : Int)) W)) ∧ (∀ W, Below w.heap.size w W → Calls Try.prog 9 #[vy] W (Ret (.int .i64 (s2.size : Int)) W))

theorem joins_facts (w : World) (X Y : List Nd) (vb vx vy : Value) (hB : Tree (· < w.heap.size) w (X ++ Y) vb) (hX : Tree (· < w.heap.size) w X vx) (hY : Tree (· < w.heap.size) w Y vy) (zX : szL X ≤ 67200) (zY : szL Y ≤ 67200) :
    JF w vb vx vy := by
  have k : ∀ W, Below w.heap.size w W → ∀ b, b < w.heap.size → b < W.heap.size := fun W h b hb => Nat.lt_of_lt_of_le hb h.size
  have zB : szL (X ++ Y) ≤ 140000 := by rw [szL_append]; omega
  refine ⟨tB (txtL false X), tB (txtL false Y), ?_, ?_, fun W h => ?_, fun W h => text_det _ _ _ W (hX.stay h) (k W h) (by omega), fun W h => text_det _ _ _ W (hY.stay h) (k W h) (by omega), fun W h => ?_, fun W h => ?_, fun W h => ?_⟩
  · rw [tB_size]; have := txt_len X false; omega
  · rw [tB_size]; have := txt_len Y false; omega
  · rw [← tB_app, ← txtL_append]
    exact text_det _ _ _ W (hB.stay h) (k W h) zB
  · have := length_any _ _ _ W (hB.stay h) (k W h) zB
    rw [txtL_append, List.length_append, ← tB_size, ← tB_size] at this
    rw [Int.natCast_add] at this
    exact this
  · have := length_any _ _ _ W (hX.stay h) (k W h) (by omega)
    rw [← tB_size] at this
    exact this
  · have := length_any _ _ _ W (hY.stay h) (k W h) (by omega)
    rw [← tB_size] at this
    exact this

theorem join_x {w w1 w2 : World} {X : List Nd} {vx : Value} (hX : OwnC w1 w.heap.size w.heap.size X vx) (hb2 : Below w1.heap.size w1 w2) : Tree (Sub w.heap.size w2 (.slice none 0 0)) w2 X vx :=
  ((hX.later hb2).tree (Nat.le_refl _)).mono fun b hb => ⟨hb.1, hb.2, by simp [Value.ownBlock]⟩
theorem join_y {w w1 w2 w3 : World} {X Y : List Nd} {vy v3 : Value} (hY : OwnC w2 w1.heap.size w1.heap.size Y vy) (hs : w.heap.size ≤ w1.heap.size) (hB3 : OwnC w3 w2.heap.size w.heap.size X v3) (hg3 : w2.grownBy w3 none) :
    Tree (Sub w.heap.size w3 v3) w3 Y vy := by
  refine ((hY.tree (Nat.le_refl _)).keep (Kept.grown hg3 fun b hb => ⟨hb.2, by simp⟩)).mono fun b hb => ⟨by omega, Nat.lt_of_lt_of_le hb.2 hg3.size, fun e => ?_⟩
  have := (OwnT.lt hB3 b e).1
  omega
/-- The three lists in the world behind both appends. -/
theorem join_w {w w1 w2 w3 w4 : World} {X Y : List Nd} {vx vy v3 v4 : Value} (hX : OwnC w1 w.heap.size w.heap.size X vx) (hY : OwnC w2 w1.heap.size w1.heap.size Y vy) (hb1 : Below w.heap.size w w1) (hb2 : Below w1.heap.size w1 w2)
    (zX : szL X ≤ 67200) (zY : szL Y ≤ 67200) (hB3 : OwnC w3 w2.heap.size w.heap.size X v3) (hg3 : w2.grownBy w3 none) (hB4 : OwnC w4 w2.heap.size w.heap.size (X ++ Y) v4) (hg4 : w3.grownBy w4 v3.ownBlock) :
    Below w.heap.size w w4 ∧ Tree (· < w4.heap.size) w4 X vx ∧ JF w4 v4 vx vy := by
  have h24 : Below w2.heap.size w2 w4 := ((Below.refl w2.heap.size w2).grown hg3 (Nat.le_refl _) (by intro k h; cases h)).grown hg4 hg3.size (fun k hk => (OwnT.lt hB3 k hk).1)
  have lo : w.heap.size ≤ w2.heap.size := Nat.le_trans hb1.size hb2.size
  have tX : Tree (· < w4.heap.size) w4 X vx := ((((hX.later hb2).tree (Nat.le_refl _)).mono fun b hb => hb.2).stay h24).mono fun b (hb : b < w2.heap.size) => Nat.lt_of_lt_of_le hb h24.size
  have tY : Tree (· < w4.heap.size) w4 Y vy := (((hY.tree (Nat.le_refl _)).mono fun b hb => hb.2).stay h24).mono fun b (hb : b < w2.heap.size) => Nat.lt_of_lt_of_le hb h24.size
  have tB : Tree (· < w4.heap.size) w4 (X ++ Y) v4 := (hB4.tree lo).mono fun b hb => hb.2
  exact ⟨below_after (below_after hb1 hb2) h24, tX, joins_facts w4 X Y v4 vx vy tB tX tY zX zY⟩

/-- An element's text, its ends' and its kids'. -/
def JN (W0 : World) (m : Nd) (vo va vk : Value) : Prop :=
  ∃ o1 k1 e1 : ByteArray, (o1.size ≤ 1000000 ∧ k1.size ≤ 1000000 ∧ e1.size ≤ 1000000) ∧ (∀ W, Below W0.heap.size W0 W → Calls Try.prog 8 #[vo] W (Ret (.string (o1 ++ k1 ++ e1)) W)) ∧
    (∀ W, Below W0.heap.size W0 W → Calls Try.prog 12 #[.agg #[.int .i64 m.kind, .string m.name, va, .string m.text, vk]] W (Ret (.string o1) W)) ∧
    (∀ W, Below W0.heap.size W0 W → Calls Try.prog 8 #[vk] W (Ret (.string k1) W)) ∧
    (∀ W, Below W0.heap.size W0 W → Calls Try.prog 13 #[.agg #[.int .i64 m.kind, .string m.name, va, .string m.text, vk]] W (Ret (.string e1) W))
theorem joins_node {W0 : World} {m : Nd} {vo va vk : Value} (ho : Tree (· < W0.heap.size) W0 [m] vo) (ha : AttrsAt (· < W0.heap.size) W0 m.attrs va) (hk : Tree (· < W0.heap.size) W0 m.kids vk) (hz : szN m ≤ 67200)
    (h1 : m.kind = 1) (hv : voidB m.name.data.toList = false) (hr : rawB m.name.data.toList = false) : JN W0 m vo va vk := by
  have k : ∀ W, Below W0.heap.size W0 W → ∀ b, b < W0.heap.size → b < W.heap.size := fun W h b hb => Nat.lt_of_lt_of_le hb h.size
  have kp : ∀ W, Below W0.heap.size W0 W → Kept (· < W0.heap.size) W0 W := fun W h => Kept.belowB h fun b hb => hb
  have e : txtL false [m] = openE m ++ txtL false m.kids ++ closeE m := by
    rw [txtL_cons, txtL_nil, List.append_nil, txtN_eq, if_neg (by omega), if_neg (by omega), if_pos h1, hv, hr, if_neg (by decide)]
    unfold openE closeE
    rw [if_pos h1, if_pos ⟨h1, hv⟩, List.append_assoc]
  have z1 : szL [m] ≤ 67200 := by rw [szL_cons, szL_nil]; omega
  have zt := txt_len [m] false
  have zk : szL m.kids ≤ 67200 := by rw [szN_eq] at hz; omega
  rw [e, List.length_append, List.length_append] at zt
  refine ⟨tB (openE m), tB (txtL false m.kids), tB (closeE m), ⟨by rw [tB_size]; omega, by rw [tB_size]; omega, by rw [tB_size]; omega⟩, fun W h => ?_, fun W h => open_det _ m va vk W (ha.keep (kp W h)) (hk.stay h) (k W h) (by omega),
    fun W h => text_det _ _ _ W (hk.stay h) (k W h) (by omega), fun W h => close_det _ m va vk W (ha.keep (kp W h)) (hk.stay h) (k W h) (by omega)⟩
  have := text_det _ _ _ W (ho.stay h) (k W h) (by omega : szL [m] ≤ 140000)
  rw [e, tB_app, tB_app] at this
  exact this

def JRel (X : List Nd) (w : World) (x : Value) (wr : World) : Prop := ∃ k : Nat, x = .int .i64 k ∧ k ≤ X.length ∧ Below w.heap.size w wr

set_option maxHeartbeats 2000000 in
set_option maxRecDepth 100000 in
theorem writeJoins_end (la : List Nd) (va : Value) (lb : List Nd) (vb : Value) (w : World) (hTa : Tree (· < w.heap.size) w la va) (hFa : Fine la) (hTb : Tree (· < w.heap.size) w lb vb) (hFb : Fine lb) :
    Calls Try.prog 3 #[va, vb] w fun e w' => e = .returned (.bool true) ∧ Below w.heap.size w w' := by
  have HG1 := Lib.hid (goodR_any la va w hTa hFa)
  have HG2 := Lib.hid (fun (W : World) (hb : Below w.heap.size w W) => goodR_any lb vb W ((hTb.stay hb).mono fun b h => Nat.lt_of_lt_of_le h hb.size) hFb)
  clear hTa hFa hTb hFb
  go_enter Try.func3, Try.ntmps3
  go_wp2_with fail
  refine HG1.out.mono ?_
  rintro e w1 ⟨X, vx, rfl, hX, hXok, hXz, hb1⟩
  go_wp2_with fail
  refine (HG2.out w1 hb1).mono ?_
  rintro e w2 ⟨Y, vy, rfl, hY, hYok, hYz, hb2⟩
  obtain ⟨A1, c1, rfl, hc1⟩ := OwnT.shape hX
  obtain ⟨A2, c2, rfl, hc2⟩ := OwnT.shape hY
  have lX := szL_len X
  have lY := szL_len Y
  have hlX : X.length ≤ 70000 := by omega
  have hlY : Y.length ≤ 70000 := by omega
  clear lX lY
  have hXs := Lib.hid (join_x hX hb2)
  have hYs := Lib.hid (fun (v3 : Value) (w3 : World) h1 h2 => join_y (v3 := v3) (w3 := w3) (w := w) (X := X) hY hb1.size h1 h2)
  have HJ := Lib.hid (fun (v3 : Value) (w3 : World) h1 h2 (v4 : Value) (w4 : World) h3 h4 => join_w (v3 := v3) (w3 := w3) (v4 := v4) (w4 := w4) (w := w) hX hY hb1 hb2 hXz hYz h1 h2 h3 h4)
  have HOK := Lib.hid hXok
  have HXZ := Lib.hid hXz
  clear hX hY hXok hYok hXz hYz hb1 hb2
  go_wp2_with (at_builtin; first
    | (refine wpList_append_tree rfl _ _ rfl w2.heap.size w.heap.size X v3 rfl hB3 Y (.slice A2 Y.length c2) rfl (hYs.out v3 w3 hB3 hg3) (by omega) hg3.size ?_; intro v4 w4 hB4 hg4)
    | (refine wpList_append_tree rfl _ _ rfl w2.heap.size w.heap.size [] (.slice none 0 0) rfl (OwnC.nil _ _ _) X (.slice A1 X.length c1) rfl hXs.out (by simp; omega) (Nat.le_refl _) ?_; intro v3 w3 hB3 hg3))
  obtain ⟨hb4, tX4, s1, s2, z1, z2, j1, j2, j3, j4, j5, j6⟩ := HJ.out v3 w3 hB3 hg3 v4 w4 hB4 hg4
  have HX4 := Lib.hid tX4
  have J1 := Lib.hid j1
  have J2 := Lib.hid j2
  have J3 := Lib.hid j3
  have J4 := Lib.hid j4
  have J5 := Lib.hid j5
  have J6 := Lib.hid j6
  have HB4 := Lib.hid hb4
  clear tX4 j1 j2 j3 j4 j5 j6 hB3 hg3 hB4 hg4 hb4 HJ hXs hYs HG1 HG2
  refine (J1.out w4 (Below.refl _ _)).mono ?_
  rintro e w5 ⟨rfl, h5⟩
  go_wp2_with fail
  refine (J2.out w5 h5).mono ?_
  rintro e w6 ⟨rfl, h6⟩
  have h6 := below_after h5 h6
  go_wp2_with fail
  refine (J3.out w6 h6).mono ?_
  rintro e w7 ⟨rfl, h7⟩
  have h7 := below_after h6 h7
  go_wp2_with fail
  refine (J4.out w7 h7).mono ?_
  rintro e w8 ⟨rfl, h8⟩
  have h8 := below_after h7 h8
  go_wp2_with fail
  refine (J5.out w8 h8).mono ?_
  rintro e w9 ⟨rfl, h9⟩
  have h9 := below_after h8 h9
  go_wp2_with fail
  refine (J6.out w9 h9).mono ?_
  rintro e w10 ⟨rfl, h10⟩
  have h10 := below_after h9 h10
  clear h5 h6 h7 h8 h9 J1 J2 J3 J4 J5 J6
  go_wp2_with fail
  go_loopw [8, 9, 10] (fun x y z wr => JRel X w4 x wr) (fun x _ _ _ => X.length - (intOf x).toNat)
  case atStart => exact ⟨0, rfl, by omega, h10⟩
  case round =>
    obtain ⟨k, rfl, hk, hbr⟩ := hrel
    by_cases hlt : k < X.length
    · obtain ⟨b, o2, c', hv, hc', hSb, hcell⟩ := HX4.out.open_ (by omega)
      injection hv with hA _ hcc
      subst hA
      subst hcc
      obtain ⟨m, hm⟩ : ∃ m, X[k]? = some m := ⟨_, List.getElem?_eq_getElem hlt⟩
      obtain ⟨ma, mk, hmt⟩ := hcell k m hm
      have hzm : szN m ≤ 67200 := by have h1 := szL_at hm; have h2 := HXZ.out; omega
      obtain ⟨A3, c3, rfl, _, _⟩ := id hmt.at_
      obtain ⟨A4, c4, rfl, _⟩ := hmt.kids.shape
      have hJN := Lib.hid (joins_node (HX4.out.one hm) hmt.at_ hmt.kids hzm)
      have q0 : wr.cell? ⟨b, o2 + k * 5, none⟩ = some (.int .i64 m.kind) := (hbr.cell (p := ⟨b, o2 + k * 5, none⟩) hSb).trans hmt.c0
      have q1 : wr.cell? ⟨b, o2 + k * 5 + 1, none⟩ = some (.string m.name) := (hbr.cell (p := ⟨b, o2 + k * 5 + 1, none⟩) hSb).trans hmt.c1
      have q2 : wr.cell? ⟨b, o2 + k * 5 + 2, none⟩ = some (.slice A3 m.attrs.length c3) := (hbr.cell (p := ⟨b, o2 + k * 5 + 2, none⟩) hSb).trans hmt.c2
      have q3 : wr.cell? ⟨b, o2 + k * 5 + 3, none⟩ = some (.string m.text) := (hbr.cell (p := ⟨b, o2 + k * 5 + 3, none⟩) hSb).trans hmt.c3
      have q4 : wr.cell? ⟨b, o2 + k * 5 + 4, none⟩ = some (.slice A4 m.kids.length c4) := (hbr.cell (p := ⟨b, o2 + k * 5 + 4, none⟩) hSb).trans hmt.c4
      have HV := Lib.hid (fun W => voidR_any m.name W)
      have HR := Lib.hid (fun W => rawR_any m.name W)
      obtain ⟨vd, hvd⟩ : ∃ v, voidB m.name.data.toList = v := ⟨_, rfl⟩
      obtain ⟨rw_, hrw⟩ : ∃ v, rawB m.name.data.toList = v := ⟨_, rfl⟩
      rw [hvd] at HV
      rw [hrw] at HR
      have HVD := Lib.hid hvd
      have HRW := Lib.hid hrw
      clear hm hmt hcell hvd hrw hzm
      go_wp2_with fail
      refine (HV.out _).mono ?_
      rintro e w11 ⟨rfl, rfl⟩
      go_wp2_with fail
      refine (HR.out _).mono ?_
      rintro e w11 ⟨rfl, rfl⟩
      by_cases h1 : m.kind = 1
      · have B1 : (m.kind == 1) = true := by simp [h1]
        have HK := Lib.hid h1
        clear h1
        cases vd
        · cases rw_
          · obtain ⟨o1, k1, e1, ⟨y1, y2, y3⟩, f1, f2, f3, f4⟩ := hJN.out HK.out HVD.out HRW.out
            have hb4 : b < wr.heap.size := Nat.lt_of_lt_of_le hSb hbr.size
            have s3 : ∀ W, (Instr.slice 22 (.slice (some ⟨b, o2, none⟩) X.length c1) (some (.int .i64 (k : Int))) (some (.int .i64 ((k : Int) + 1))) none).run Try.prog W = .ok (.slice (some ⟨b, o2 + k * 5, none⟩) 1 (c1 - k)) W := fun W => cut_one W b o2 X.length c1 k hlt hc'
            have hwr : IntKind.i64.wrap ((k : Int) + 1) = (k : Int) + 1 := by rw [IntKind.wrap_i64]; omega
            have i0 : (0 : Int) ≤ (k : Int) := by omega
            have i1 : (k : Int) ≤ (k : Int) + 1 := by omega
            have i2 : (k : Int) + 1 ≤ (c1 : Int) := by omega
            have a1 : ¬ (9223372036854775807 < o1.size + k1.size) := by omega
            have a2 : ¬ (9223372036854775807 < o1.size + k1.size + e1.size) := by omega
            have F1 := Lib.hid f1
            have F2 := Lib.hid f2
            have F3 := Lib.hid f3
            have F4 := Lib.hid f4
            clear f1 f2 f3 f4
            have MKS := Lib.hid fun (W : World) (hb : Below w4.heap.size w4 W) => (⟨(hb.cell (p := ⟨b, o2 + k * 5, none⟩) hSb).trans ((hbr.cell (p := ⟨b, o2 + k * 5, none⟩) hSb).symm.trans q0), (hb.cell (p := ⟨b, o2 + k * 5 + 1, none⟩) hSb).trans ((hbr.cell (p := ⟨b, o2 + k * 5 + 1, none⟩) hSb).symm.trans q1),
              (hb.cell (p := ⟨b, o2 + k * 5 + 2, none⟩) hSb).trans ((hbr.cell (p := ⟨b, o2 + k * 5 + 2, none⟩) hSb).symm.trans q2), (hb.cell (p := ⟨b, o2 + k * 5 + 3, none⟩) hSb).trans ((hbr.cell (p := ⟨b, o2 + k * 5 + 3, none⟩) hSb).symm.trans q3),
              (hb.cell (p := ⟨b, o2 + k * 5 + 4, none⟩) hSb).trans ((hbr.cell (p := ⟨b, o2 + k * 5 + 4, none⟩) hSb).symm.trans q4), hb⟩ : W.cell? ⟨b, o2 + k * 5, none⟩ = some (.int .i64 m.kind) ∧ W.cell? ⟨b, o2 + k * 5 + 1, none⟩ = some (.string m.name) ∧ W.cell? ⟨b, o2 + k * 5 + 2, none⟩ = some (.slice A3 m.attrs.length c3) ∧
              W.cell? ⟨b, o2 + k * 5 + 3, none⟩ = some (.string m.text) ∧ W.cell? ⟨b, o2 + k * 5 + 4, none⟩ = some (.slice A4 m.kids.length c4) ∧ Below w4.heap.size w4 W)
            have SB := Lib.hid fun (W : World) (h : W.cell? ⟨b, o2 + k * 5, none⟩ = some (.int .i64 m.kind) ∧ W.cell? ⟨b, o2 + k * 5 + 1, none⟩ = some (.string m.name) ∧ W.cell? ⟨b, o2 + k * 5 + 2, none⟩ = some (.slice A3 m.attrs.length c3) ∧
              W.cell? ⟨b, o2 + k * 5 + 3, none⟩ = some (.string m.text) ∧ W.cell? ⟨b, o2 + k * 5 + 4, none⟩ = some (.slice A4 m.kids.length c4) ∧ Below w4.heap.size w4 W) => h.2.2.2.2.2
            have HBR := Lib.hid hbr
            clear hJN HV HR hbr
            go_wp2_with fail
            go_region_held3 (fun W => W.cell? ⟨b, o2 + k * 5, none⟩ = some (.int .i64 m.kind) ∧ W.cell? ⟨b, o2 + k * 5 + 1, none⟩ = some (.string m.name) ∧ W.cell? ⟨b, o2 + k * 5 + 2, none⟩ = some (.slice A3 m.attrs.length c3) ∧
                W.cell? ⟨b, o2 + k * 5 + 3, none⟩ = some (.string m.text) ∧ W.cell? ⟨b, o2 + k * 5 + 4, none⟩ = some (.slice A4 m.kids.length c4) ∧ Below w4.heap.size w4 W)
              (first
                | exact MKS.out _ HBR.out.drew
                | exact MKS.out _ HBR.out
                | (refine MKS.out _ (below_after (SB.out _ ?_) ha1); assumption)
                | (refine MKS.out _ (below_after (SB.out _ ?_) ha2); assumption)
                | (refine MKS.out _ (below_after (SB.out _ ?_) ha3); assumption)
                | (refine MKS.out _ (below_after (SB.out _ ?_) ha4); assumption))
              (first
                | (go_at_call 8; refine Calls.mono (F1.out _ (SB.out _ ?_)) ?_; assumption; rintro e w' ⟨rfl, ha1⟩)
                | (go_at_call 12; refine Calls.mono (F2.out _ (SB.out _ ?_)) ?_; assumption; rintro e w' ⟨rfl, ha2⟩)
                | (go_at_call 8; refine Calls.mono (F3.out _ (SB.out _ ?_)) ?_; assumption; rintro e w' ⟨rfl, ha3⟩)
                | (go_at_call 13; refine Calls.mono (F4.out _ (SB.out _ ?_)) ?_; assumption; rintro e w' ⟨rfl, ha4⟩))
            all_goals go_wp2_with fail
            all_goals go_roundw
            case rel => exact ⟨k + 1, by go_num, by omega, SB.out _ (by assumption)⟩
            case measure => simp [intOf]; omega
          · go_wp2_with fail
            go_quiet (fail)
            go_wp2
            go_roundw
            case rel => exact ⟨k + 1, by go_num, by omega, dN_below hbr _⟩
            case measure => simp [intOf]; omega
        · go_wp2_with fail
          go_quiet (fail)
          go_wp2
          go_roundw
          case rel => exact ⟨k + 1, by go_num, by omega, dN_below hbr _⟩
          case measure => simp [intOf]; omega
      · have B1 : (m.kind == 1) = false := by simp [h1]
        have HK := Lib.hid h1
        clear h1
        go_wp2_with fail
        go_quiet (fail)
        go_wp2
        go_roundw
        case rel => exact ⟨k + 1, by go_num, by omega, dN_below hbr _⟩
        case measure => simp [intOf]; omega
    · have hke : k = X.length := by omega
      subst hke
      clear hk hlt
      go_wp2_with fail
      refine (lives4_any _).mono ?_
      rintro e w11 ⟨rfl, h11⟩
      have h11 := below_after hbr h11
      have HBE := Lib.hid (below_after HB4.out h11)
      clear h11 hbr
      go_wp2_with fail
      go_ret
      exact ⟨rfl, HBE.out⟩

end Go.Proofs.Ytenjhfkdbmljnaa
