/- WriteNames: its walk. -/
import Derived.Test.YtenjhfkdbmljnaaWLawD
namespace Go.Proofs.Ytenjhfkdbmljnaa
open Go.RowKit
set_option linter.unusedVariables false
set_option linter.unusedSimpArgs false

/-- A node without its kids. -/
def bareN (m : Nd) : Nd := .mk m.kind m.name m.attrs m.text []
def els (l : List Nd) : List Nd := l.flatMap fun m => if m.kind = 1 then [bareN m] else []
theorem els_take {l : List Nd} {k : Nat} {m : Nd} (h : l[k]? = some m) : els (l.take (k + 1)) = els (l.take k) ++ (if m.kind = 1 then [bareN m] else []) := by
  rw [List.take_add_one, h]
  simp [els]
theorem sz_bareN (m : Nd) : szN (bareN m) ≤ szN m := by
  rw [szN_eq, szN_eq]
  show 10 + m.name.size + m.text.size + szA m.attrs + szL [] ≤ _
  simp only [szL]
  omega
theorem sz_els : ∀ l : List Nd, szL (els l) ≤ szL l
  | [] => Nat.le_refl _
  | m :: l => by
    have h := sz_els l
    have h2 := sz_bareN m
    show szL ((if m.kind = 1 then [bareN m] else []) ++ els l) ≤ _
    rw [szL_append, szL_cons]
    by_cases h1 : m.kind = 1
    · rw [if_pos h1, szL_cons, szL_nil]; omega
    · rw [if_neg h1, szL_nil]; omega
theorem plain_els : ∀ l : List Nd, plainL (els l) = []
  | [] => plainL_nil
  | m :: l => by
    show plainL ((if m.kind = 1 then [bareN m] else []) ++ els l) = _
    rw [plainL_append, plain_els l]
    by_cases h1 : m.kind = 1
    · rw [if_pos h1, plainL_cons, plainL_nil, plainN_eq]
      show ((if m.kind = 2 then _ else []) ++ plainL []) ++ [] ++ [] = _
      rw [if_neg (by omega), plainL_nil]
      rfl
    · rw [if_neg h1, plainL_nil]; rfl
theorem txt_bareN {m : Nd} (h1 : m.kind = 1) : txtL false [bareN m] = openE (bareN m) ++ closeE (bareN m) := by
  rw [txtL_cons, txtL_nil, List.append_nil, txtN_eq]
  have hk : (bareN m).kind = 1 := h1
  rw [if_neg (by omega), if_neg (by omega), if_pos hk]
  unfold openE closeE
  rw [if_pos hk]
  cases hv : voidB (bareN m).name.data.toList
  · rw [if_neg (by decide), if_pos ⟨hk, by trivial⟩]
    show _ ++ (txtL _ [] ++ _) = _
    rw [txtL_nil, List.nil_append]
  · rw [if_pos rfl, if_neg (fun h => by cases h.2), List.append_nil]

theorem plain_det (S : Nat → Prop) (l : List Nd) (v : Value) (w : World) (hT : Tree S w l v) (hS : ∀ b, S b → b < w.heap.size) (hsz : szL l ≤ 140000) :
    Calls Try.prog 15 #[v] w (Ret (.string (tB (plainL l))) w) := by
  refine (plain_any S l v w hT hS hsz).mono ?_
  rintro e w' ⟨s, rfl, hs, hb⟩
  rw [lit_of hs]
  exact ⟨rfl, hb⟩
theorem new_five' (w : World) (n : Nat) (h : w.heap.size = n) (t : TypeId) (r : Rn) : ∀ j u, (ncells1 r)[j]? = some u → (w.alloc (.cells #[.int .i64 r.n.kind, .string r.n.name, r.va, .string r.n.text, r.vk] t)).cell? ((⟨n, 0, none⟩ : Addr).add j) = some u := by
  subst h
  exact new_five w t r
/-- The world that holds the node's copy twice. -/
def W2 (wr : World) (m : Nd) (va : Value) : World := (wr.alloc (.cells #[.int .i64 m.kind, .string m.name, va, .string m.text, .slice none 0 0] 29)).alloc (.cells #[.int .i64 m.kind, .string m.name, va, .string m.text, .slice none 0 0] 29)
theorem W2_below (wr : World) (m : Nd) (va : Value) : Below wr.heap.size wr (W2 wr m va) := ((Below.refl _ wr).alloc (Nat.le_refl _) _).alloc (by simp) _
theorem names_app {wr : World} {base lo : Nat} {l : List Nd} {v : Value} (how : OwnC wr base lo l v) (m : Nd) (va : Value) : OwnC (W2 wr m va) base lo l v := how.later (W2_below wr m va)
theorem names_at {w1 wr : World} {lo : Nat} {l : List Nd} {v va : Value} {m : Nd} (how : OwnC wr w1.heap.size lo l v) (hbr : Below w1.heap.size w1 wr) (hat : AttrsAt (fun b => lo ≤ b ∧ b < w1.heap.size) w1 m.attrs va) : AttrsAt (Sub lo (W2 wr m va) v) (W2 wr m va) m.attrs va := by
  have hb := below_after hbr (W2_below wr m va)
  refine (hat.keep (Kept.belowB hb fun b hb => hb.2)).mono fun b hb' => ⟨hb'.1, Nat.lt_of_lt_of_le hb'.2 hb.size, fun e => ?_⟩
  have := (OwnT.lt how b e).1
  omega
/-- Behind the append: the copy stands, all that was stands. -/
theorem names_after {w1 wr w' : World} {lo : Nat} {l : List Nd} {v va : Value} {m : Nd} (how : OwnC wr w1.heap.size lo l v) (hbr : Below w1.heap.size w1 wr) (hg : (W2 wr m va).grownBy w' v.ownBlock) :
    Below w1.heap.size w1 w' ∧ wr.heap.size < w'.heap.size ∧ w'.cell? ⟨wr.heap.size, 0, none⟩ = some (.int .i64 m.kind) ∧ w'.cell? ⟨wr.heap.size, 1, none⟩ = some (.string m.name) ∧ w'.cell? ⟨wr.heap.size, 2, none⟩ = some va ∧
      w'.cell? ⟨wr.heap.size, 3, none⟩ = some (.string m.text) ∧ w'.cell? ⟨wr.heap.size, 4, none⟩ = some (.slice none 0 0) := by
  have hb := below_after hbr (W2_below wr m va)
  have hs : (W2 wr m va).heap.size = wr.heap.size + 2 := by simp [W2]
  have hs2 := hg.size
  have hc : ∀ i, w'.cell? ⟨wr.heap.size, i, none⟩ = (W2 wr m va).cell? ⟨wr.heap.size, i, none⟩ := fun i =>
    World.cell?_of_block (a := ⟨wr.heap.size, i, none⟩) (hg.block wr.heap.size (by omega) (fun e => by have := (OwnT.lt how wr.heap.size e.symm).2; omega))
  have hw : ∀ i, (W2 wr m va).cell? ⟨wr.heap.size, i, none⟩ = (#[.int .i64 m.kind, .string m.name, va, .string m.text, .slice none 0 0] : Array Value)[i]? := fun i => by
    unfold W2
    rw [World.cell?_alloc_past _ _ _ (by simp), World.cell?_alloc_mark]
  refine ⟨hb.grown hg hb.size (fun k hk => (OwnT.lt how k hk).1), by omega, ?_, ?_, ?_, ?_, ?_⟩
  all_goals rw [hc, hw]
  all_goals rfl

def NJ (w1 : World) (m : Nd) (va : Value) : Prop :=
  ∃ o1 e1 : ByteArray, (o1.size ≤ 1000000 ∧ e1.size ≤ 1000000) ∧ tB (txtL false [bareN m]) = o1 ++ e1 ∧
    (∀ W, Below w1.heap.size w1 W → Calls Try.prog 12 #[.agg #[.int .i64 m.kind, .string m.name, va, .string m.text, .slice none 0 0]] W (Ret (.string o1) W)) ∧
    (∀ W, Below w1.heap.size w1 W → Calls Try.prog 13 #[.agg #[.int .i64 m.kind, .string m.name, va, .string m.text, .slice none 0 0]] W (Ret (.string e1) W))
theorem names_calls {w1 : World} {lo : Nat} {va : Value} {m : Nd} (hat : AttrsAt (fun b => lo ≤ b ∧ b < w1.heap.size) w1 m.attrs va) (hz : szN m ≤ 67200) (h1 : m.kind = 1) : NJ w1 m va := by
  have hz2 := sz_bareN m
  have ha : ∀ W, Below w1.heap.size w1 W → AttrsAt (· < w1.heap.size) W m.attrs va := fun W h => (hat.mono fun b hb => hb.2).keep (Kept.belowB h fun b hb => hb)
  have e := txt_bareN h1
  have zt := txt_len [bareN m] false
  rw [szL_cons, szL_nil, e, List.length_append] at zt
  refine ⟨tB (openE (bareN m)), tB (closeE (bareN m)), ⟨by rw [tB_size]; omega, by rw [tB_size]; omega⟩, by rw [e, tB_app], fun W h => ?_, fun W h => ?_⟩
  · exact open_det _ (bareN m) va (.slice none 0 0) W (ha W h) (Tree.nil _ _) (fun b hb => Nat.lt_of_lt_of_le hb h.size) (by omega)
  · exact close_det _ (bareN m) va (.slice none 0 0) W (ha W h) (Tree.nil _ _) (fun b hb => Nat.lt_of_lt_of_le hb h.size) (by omega)
/-- What is asked at the end. -/
theorem names_end {w1 wr : World} {lo : Nat} {X : List Nd} {v : Value} (how : OwnC wr w1.heap.size lo (els X) v) (hlo : lo ≤ w1.heap.size) (hz : szL X ≤ 67200) :
    (∀ W, Below wr.heap.size wr W → Calls Try.prog 8 #[v] W (Ret (.string (tB (txtL false (els X)))) W)) ∧ (∀ W, Below wr.heap.size wr W → Calls Try.prog 15 #[v] W (Ret (.string ⟨#[]⟩) W)) ∧
    (∀ W, Calls Try.prog 8 #[.slice none 0 0] W (Ret (.string ⟨#[]⟩) W)) := by
  have hz2 := sz_els X
  have hT : Tree (· < wr.heap.size) wr (els X) v := (how.tree hlo).mono fun b hb => hb.2
  refine ⟨fun W h => text_det _ _ _ W (hT.stay h) (fun b hb => Nat.lt_of_lt_of_le hb h.size) (by omega), fun W h => ?_, fun W => ?_⟩
  · have := plain_det _ _ _ W (hT.stay h) (fun b hb => Nat.lt_of_lt_of_le hb h.size) (by omega)
    rw [plain_els] at this
    exact this
  · have := text_det (fun _ => False) [] _ W (Tree.nil _ _) (fun b hb => hb.elim) (by rw [szL_nil]; omega)
    rw [txtL_nil] at this
    exact this

theorem take_sz (X : List Nd) (k : Nat) (h : szL X ≤ 67200) : szL (X.take k) ≤ 67200 := by
  have : szL X = szL (X.take k) + szL (X.drop k) := by rw [← szL_append, List.take_append_drop]
  omega
theorem els_txt_sz (X : List Nd) (k : Nat) (h : szL X ≤ 67200) : (tB (txtL false (els (X.take k)))).size ≤ 470400 := by
  rw [tB_size]
  have h1 := txt_len (els (X.take k)) false
  have h2 := sz_els (X.take k)
  have h3 := take_sz X k h
  omega

structure NmAt (X : List Nd) (lo : Nat) (w1 wr : World) (k : Nat) (v : Value) : Prop where
  le : k ≤ X.length
  own : OwnC wr w1.heap.size lo (els (X.take k)) v
  bel : Below w1.heap.size w1 wr
def NmRel (X : List Nd) (lo : Nat) (w1 : World) (x y z : Value) (wr : World) : Prop := ∃ k : Nat, y = .string (tB (txtL false (els (X.take k)))) ∧ z = .int .i64 k ∧ NmAt X lo w1 wr k x

set_option maxHeartbeats 2000000 in
set_option maxRecDepth 100000 in
theorem writeNames_end (la : List Nd) (va : Value) (w : World) (hTa : Tree (· < w.heap.size) w la va) (hFa : Fine la) :
    Calls Try.prog 5 #[va] w fun e w' => e = .returned (.bool true) ∧ Below w.heap.size w w' := by
  have HG1 := Lib.hid (goodR_any la va w hTa hFa)
  clear hTa hFa
  go_enter Try.func5, Try.ntmps5
  go_wp2_with fail
  refine HG1.out.mono ?_
  rintro e w1 ⟨X, vx, rfl, hX, hXok, hXz, hb1⟩
  have HX := Lib.hid ((hX.tree (Nat.le_refl _)))
  obtain ⟨A1, c1, rfl, hc1⟩ := OwnT.shape hX
  have hlX : X.length ≤ 70000 := by have lX := szL_len X; omega
  have HXZ := Lib.hid hXz
  have HB1 := Lib.hid hb1
  have hlo := hb1.size
  have HTK := Lib.hid (fun k => take_sz X k hXz)
  have HOS := Lib.hid (fun k => els_txt_sz X k hXz)
  clear hX hXok hXz hb1 HG1
  go_wp2_with fail
  go_loopw [4, 5, 6, 7] (fun x y z u wr => NmRel X w.heap.size w1 x y z wr) (fun _ _ z _ _ => X.length - (intOf z).toNat)
  case atStart => exact ⟨0, by rw [List.take_zero]; rfl, rfl, by omega, OwnT.nil _ _ _, Below.refl _ _⟩
  case round =>
    obtain ⟨k, rfl, rfl, HR⟩ := hrel
    obtain ⟨hk, how, hbr⟩ := HR
    by_cases hlt : k < X.length
    · obtain ⟨b, o2, c', hv, hc', hSb, hcell⟩ := HX.out.open_ (by omega)
      injection hv with hA _ hcc
      subst hA
      subst hcc
      obtain ⟨m, hm⟩ : ∃ m, X[k]? = some m := ⟨_, List.getElem?_eq_getElem hlt⟩
      obtain ⟨ma, mk, hmt⟩ := hcell k m hm
      have hzm : szN m ≤ 67200 := by have h1 := szL_at hm; have h2 := HXZ.out; omega
      obtain ⟨A3, c3, rfl, _, _⟩ := id hmt.at_
      obtain ⟨A4, c4, rfl, _⟩ := hmt.kids.shape
      have q0 : wr.cell? ⟨b, o2 + k * 5, none⟩ = some (.int .i64 m.kind) := (hbr.cell (p := ⟨b, o2 + k * 5, none⟩) hSb.2).trans hmt.c0
      have q1 : wr.cell? ⟨b, o2 + k * 5 + 1, none⟩ = some (.string m.name) := (hbr.cell (p := ⟨b, o2 + k * 5 + 1, none⟩) hSb.2).trans hmt.c1
      have q2 : wr.cell? ⟨b, o2 + k * 5 + 2, none⟩ = some (.slice A3 m.attrs.length c3) := (hbr.cell (p := ⟨b, o2 + k * 5 + 2, none⟩) hSb.2).trans hmt.c2
      have q3 : wr.cell? ⟨b, o2 + k * 5 + 3, none⟩ = some (.string m.text) := (hbr.cell (p := ⟨b, o2 + k * 5 + 3, none⟩) hSb.2).trans hmt.c3
      have q4 : wr.cell? ⟨b, o2 + k * 5 + 4, none⟩ = some (.slice A4 m.kids.length c4) := (hbr.cell (p := ⟨b, o2 + k * 5 + 4, none⟩) hSb.2).trans hmt.c4
      have HM := Lib.hid hm
      have hel := els_take hm
      by_cases h1 : m.kind = 1
      · have B1 : (m.kind == 1) = true := by simp [h1]
        have B2 : (m.kind != 1) = false := by simp [h1]
        rw [if_pos h1] at hel
        have HEL := Lib.hid hel
        have HK := Lib.hid h1
        clear h1 hel hm
        have hss := HOS.out k
        obtain ⟨v0, hv0⟩ := OwnT.shape how
        obtain ⟨wt, hwt⟩ : ∃ t, tB (txtL false (els (X.take k))) = t := ⟨_, rfl⟩
        rw [hwt] at hss ⊢
        have HWT := Lib.hid hwt
        obtain ⟨o1, e1, ⟨y1, y2⟩, heq, f2, f4⟩ := names_calls hmt.at_ hzm HK.out
        have HEQ := Lib.hid heq
        have F2 := Lib.hid f2
        have F4 := Lib.hid f4
        have a1 : ¬ (9223372036854775807 < wt.size + o1.size) := by omega
        have a2 : ¬ (9223372036854775807 < wt.size + o1.size + e1.size) := by omega
        have HOW := Lib.hid how
        have HAT := Lib.hid (names_at how hbr hmt.at_)
        have HAF := Lib.hid (fun (w' : World) h => names_after (w' := w') (m := m) (va := .slice A3 m.attrs.length c3) how hbr h)
        have hlen : (els (X.take k)).length ≤ 1000000 := by have h1 := szL_len (els (X.take k)); have h2 := sz_els (X.take k); have h3 := HTK.out k; omega
        have hbz := hbr.size
        have HBR := Lib.hid hbr
        obtain ⟨c0, rfl, hc0⟩ := hv0
        clear hwt heq f2 f4 how hmt hcell hbr hzm
        go_wp2_with (at_builtin; refine wpList_append_node rfl _ _ rfl w1.heap.size w.heap.size (els (X.take k)) _ rfl (names_app HOW.out m (.slice A3 m.attrs.length c3)) ⟨bareN m, .slice A3 m.attrs.length c3, .slice none 0 0⟩ ⟨wr.heap.size + 1, 0, none⟩ 1 rfl (new_five' _ _ (by simp) _ ⟨bareN m, .slice A3 m.attrs.length c3, .slice none 0 0⟩) HAT.out (Tree.nil _ _) hlen (by simp; omega) ?_; intro v5 w5 hB5 hg5)
        obtain ⟨hb5, hlt5, n0, n1, n2, n3, n4⟩ := HAF.out w5 hg5
        have HB5 := Lib.hid hb5
        have HOW5 := Lib.hid hB5
        have MKS := Lib.hid fun (W : World) (hb : Below w5.heap.size w5 W) => (⟨(hb.cell (p := ⟨wr.heap.size, 0, none⟩) hlt5).trans n0, (hb.cell (p := ⟨wr.heap.size, 1, none⟩) hlt5).trans n1, (hb.cell (p := ⟨wr.heap.size, 2, none⟩) hlt5).trans n2,
          (hb.cell (p := ⟨wr.heap.size, 3, none⟩) hlt5).trans n3, (hb.cell (p := ⟨wr.heap.size, 4, none⟩) hlt5).trans n4, hb⟩ : W.cell? ⟨wr.heap.size, 0, none⟩ = some (.int .i64 m.kind) ∧ W.cell? ⟨wr.heap.size, 1, none⟩ = some (.string m.name) ∧ W.cell? ⟨wr.heap.size, 2, none⟩ = some (.slice A3 m.attrs.length c3) ∧ W.cell? ⟨wr.heap.size, 3, none⟩ = some (.string m.text) ∧ W.cell? ⟨wr.heap.size, 4, none⟩ = some (.slice none 0 0) ∧ Below w5.heap.size w5 W)
        have SB := Lib.hid fun (W : World) (h : W.cell? ⟨wr.heap.size, 0, none⟩ = some (.int .i64 m.kind) ∧ W.cell? ⟨wr.heap.size, 1, none⟩ = some (.string m.name) ∧ W.cell? ⟨wr.heap.size, 2, none⟩ = some (.slice A3 m.attrs.length c3) ∧ W.cell? ⟨wr.heap.size, 3, none⟩ = some (.string m.text) ∧ W.cell? ⟨wr.heap.size, 4, none⟩ = some (.slice none 0 0) ∧ Below w5.heap.size w5 W) => h.2.2.2.2.2
        have SC := Lib.hid fun (W : World) (h : W.cell? ⟨wr.heap.size, 0, none⟩ = some (.int .i64 m.kind) ∧ W.cell? ⟨wr.heap.size, 1, none⟩ = some (.string m.name) ∧ W.cell? ⟨wr.heap.size, 2, none⟩ = some (.slice A3 m.attrs.length c3) ∧ W.cell? ⟨wr.heap.size, 3, none⟩ = some (.string m.text) ∧ W.cell? ⟨wr.heap.size, 4, none⟩ = some (.slice none 0 0) ∧ Below w5.heap.size w5 W) => below_after HB5.out h.2.2.2.2.2
        clear hB5 hg5 hb5 HAF HAT HOW HBR hbz
        go_region_held3 (fun W => W.cell? ⟨wr.heap.size, 0, none⟩ = some (.int .i64 m.kind) ∧ W.cell? ⟨wr.heap.size, 1, none⟩ = some (.string m.name) ∧ W.cell? ⟨wr.heap.size, 2, none⟩ = some (.slice A3 m.attrs.length c3) ∧ W.cell? ⟨wr.heap.size, 3, none⟩ = some (.string m.text) ∧ W.cell? ⟨wr.heap.size, 4, none⟩ = some (.slice none 0 0) ∧ Below w5.heap.size w5 W)
          (first
            | exact MKS.out _ (Below.refl _ _).drew
            | exact MKS.out _ (Below.refl _ _)
            | (refine MKS.out _ (below_after (SB.out _ ?_) ha2); assumption)
            | (refine MKS.out _ (below_after (SB.out _ ?_) ha4); assumption))
          (first
            | (go_at_call 12; refine Calls.mono (F2.out _ (SC.out _ ?_)) ?_; assumption; rintro e w' ⟨rfl, ha2⟩)
            | (go_at_call 13; refine Calls.mono (F4.out _ (SC.out _ ?_)) ?_; assumption; rintro e w' ⟨rfl, ha4⟩))
        all_goals go_wp2_with fail
        all_goals go_roundw
        case rel =>
          refine ⟨k + 1, ?_, by go_num, by omega, ?_, SC.out _ (by assumption)⟩
          · rw [HEL.out, txtL_append, tB_app, HWT.out, HEQ.out]
            simp [ByteArray.append_assoc]
          · rw [HEL.out]
            exact HOW5.out.later (SB.out _ (by assumption))
        case measure => simp [intOf]; omega
      · have B1 : (m.kind == 1) = false := by simp [h1]
        have B2 : (m.kind != 1) = true := by simp [h1]
        rw [if_neg h1, List.append_nil] at hel
        have HEL := Lib.hid hel
        have HOW := Lib.hid how
        clear h1 hel hm how
        go_wp2_with fail
        go_roundw
        case rel => exact ⟨k + 1, by rw [HEL.out], by go_num, by omega, by rw [HEL.out]; exact HOW.out, hbr⟩
        case measure => simp [intOf]; omega
    · have hke : k = X.length := by omega
      subst hke
      rw [List.take_length] at how ⊢
      obtain ⟨wt, hwt⟩ : ∃ t, tB (txtL false (els X)) = t := ⟨_, rfl⟩
      obtain ⟨g1, g2, g3⟩ := names_end how hlo HXZ.out
      rw [hwt] at g1 ⊢
      have G1 := Lib.hid g1
      have G2 := Lib.hid g2
      have G3 := Lib.hid g3
      have HBR := Lib.hid hbr
      clear g1 g2 g3 how hbr hwt hk hlt
      go_wp2_with fail
      refine (G1.out _ (Below.refl _ _)).mono ?_
      rintro e w6 ⟨rfl, h6⟩
      go_wp2_with fail
      refine (G2.out _ h6).mono ?_
      rintro e w7 ⟨rfl, h7⟩
      have h7 := below_after h6 h7
      go_wp2_with fail
      refine (G3.out _).mono ?_
      rintro e w8 ⟨rfl, h8⟩
      have h8 := below_after h7 h8
      go_wp2_with fail
      refine (lives4_any _).mono ?_
      rintro e w9 ⟨rfl, h9⟩
      have HE := Lib.hid (below_after HB1.out (below_after HBR.out (below_after h8 h9)))
      clear h6 h7 h8 h9
      go_wp2_with fail
      go_ret
      exact ⟨rfl, HE.out⟩

end Go.Proofs.Ytenjhfkdbmljnaa
