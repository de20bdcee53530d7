/- Parts of the proof, in build order: May StaR Mdl ParM TokZ TreZ SameN. -/
import Derived.Test.YthmnnalamaponaaGreatK10
import Derived.Test.YthmnnalamaponaaGreatK07
import Derived.Test.YthmnnalamaponaaGreatK01
import Derived.Test.YthmnnalamaponaaGreatK04
import Derived.Test.YthmnnalamaponaaGreatK06
import Derived.BigQuiet

/- Part May. -/
namespace Go.Proofs.YthmnnalamaponaaGreat
open Go.RowKit
set_option linter.unusedVariables false

/-- Does a text stand ahead of node k? -/
def prevT (l : List Nd) : Nat → Bool
  | 0 => false
  | k + 1 => (l[k]?.map fun n => n.kind == 2).getD false
theorem prevT_one {l : List Nd} {k : Nat} {n : Nd} (h : l[k]? = some n) : prevT l (k + 1) = (n.kind == 2) := by simp [prevT, h]
structure MayAt (w wr : World) (l : List Nd) (k : Nat) : Prop where
  le : k ≤ l.length
  is : mayL false l = mayL (prevT l k) (l.drop k)
  bel : Below w.heap.size w wr
def MayRel (w : World) (l : List Nd) (x : Value) (wr : World) : Prop := ∃ k : Nat, x = .int .i64 k ∧ MayAt w wr l k

theorem may_step {l : List Nd} {k : Nat} {n : Nd} (h : l[k]? = some n) (b : Bool) : mayL b (l.drop k) = if nodeE b n = 0 then (if mayL false n.kids = 0 then mayL (prevT l (k + 1)) (l.drop (k + 1)) else mayL false n.kids) else nodeE b n := by
  have hlt := (List.getElem?_eq_some_iff.1 h).1
  have hd : l.drop k = n :: l.drop (k + 1) := by
    have := List.drop_eq_getElem_cons (l := l) (i := k) hlt
    rw [List.getElem?_eq_getElem hlt] at h
    injection h with h
    rw [h] at this
    exact this
  rw [hd, mayL_cons, mayN_eq, prevT_one h]
  by_cases h1 : nodeE b n = 0
  · rw [if_pos h1, if_pos h1]
  · rw [if_neg h1, if_neg h1, if_neg h1]

attribute [local irreducible] wpStill
set_option maxHeartbeats 2000000 in
set_option maxRecDepth 100000 in
theorem mayR_any (l : List Nd) : ∀ (S : Nat → Prop) (v : Value) (w : World), Tree S w l v → (∀ b, S b → b < w.heap.size) → szL l ≤ 100000 →
    Calls Tryz.prog 15 #[v] w fun e w' => e = .returned (.int .i64 (mayL false l)) ∧ Below w.heap.size w w' := by
  induction l using nd_ind with
  | h l ih =>
    intro S v w hT hS hsz
    have hlen := szL_len l
    obtain ⟨A, c, rfl, hc⟩ := hT.shape
    have HT := Lib.hid hT
    have IH := Lib.hid ih
    have HS := Lib.hid hS
    clear hT ih hS
    go_enter Tryz.func15, Tryz.ntmps15
    go_wp2_with fail
    go_loopw [3] (fun x wr => MayRel w l x wr) (fun x _ => l.length - (intOf x).toNat)
    case atStart => exact ⟨0, rfl, by omega, rfl, Below.refl _ _⟩
    case round =>
      obtain ⟨k, rfl, HR⟩ := hrel
      have hk := HR.le
      have hbel := HR.bel
      have HIS := Lib.hid HR.is
      clear HR
      by_cases hlt : k < l.length
      · obtain ⟨b, o, c', hv, _, hSb, hcell⟩ := HT.out.open_ (by omega)
        injection hv with hA _ hcc
        subst hA
        subst hcc
        obtain ⟨n, hn⟩ : ∃ n, l[k]? = some n := ⟨_, List.getElem?_eq_getElem hlt⟩
        obtain ⟨va, vk, hat⟩ := hcell k n hn
        have hbw := HS.out b hSb
        have hns := szL_at hn
        rw [szN_eq] at hns
        have q0 : wr.cell? ⟨b, o + k * 5, none⟩ = some (.int .i64 n.kind) := (hbel.cell (p := ⟨b, o + k * 5, none⟩) hbw).trans hat.c0
        have q1 : wr.cell? ⟨b, o + k * 5 + 1, none⟩ = some (.string n.name) := (hbel.cell (p := ⟨b, o + k * 5 + 1, none⟩) hbw).trans hat.c1
        have q2 : wr.cell? ⟨b, o + k * 5 + 2, none⟩ = some va := (hbel.cell (p := ⟨b, o + k * 5 + 2, none⟩) hbw).trans hat.c2
        have q3 : wr.cell? ⟨b, o + k * 5 + 3, none⟩ = some (.string n.text) := (hbel.cell (p := ⟨b, o + k * 5 + 3, none⟩) hbw).trans hat.c3
        have q4 : wr.cell? ⟨b, o + k * 5 + 4, none⟩ = some vk := (hbel.cell (p := ⟨b, o + k * 5 + 4, none⟩) hbw).trans hat.c4
        obtain ⟨bb, hbb⟩ : ∃ q, prevT l k = q := ⟨_, rfl⟩
        have hone : ∀ w', Below w.heap.size w w' → Calls Tryz.prog 26 #[.agg #[.int .i64 n.kind, .string n.name, va, .string n.text, vk], .bool bb] w' fun e w'' => e = .returned (.int .i64 (nodeE bb n)) ∧ Below w'.heap.size w' w'' := by
          intro w' hb'
          have kp : Kept S w w' := Kept.belowB hb' HS.out
          exact oneR_any S n va vk bb w' (hat.at_.keep kp) (hat.kids.keep kp) (fun b hb => Nat.lt_of_lt_of_le (HS.out b hb) hb'.size) (by rw [szN_eq]; omega)
        have hkid : ∀ w', Below w.heap.size w w' → Calls Tryz.prog 15 #[vk] w' fun e w'' => e = .returned (.int .i64 (mayL false n.kids)) ∧ Below w'.heap.size w' w'' := by
          intro w' hb'
          exact IH.out k n hn S vk w' (hat.kids.keep (Kept.belowB hb' HS.out)) (fun b hb => Nat.lt_of_lt_of_le (HS.out b hb) hb'.size) (by omega)
        have hst := may_step hn bb
        rw [← hbb, ← HIS.out, hbb] at hst
        obtain ⟨e1, he1⟩ : ∃ e1, nodeE bb n = e1 := ⟨_, rfl⟩
        obtain ⟨e2, he2⟩ : ∃ e2, mayL false n.kids = e2 := ⟨_, rfl⟩
        rw [he1] at hone hst
        rw [he2] at hkid hst
        have HONE := Lib.hid hone
        have HKID := Lib.hid hkid
        have HST := Lib.hid hst
        have HCE := Lib.hid hcell
        obtain ⟨A2, c2, rfl, _, _⟩ := id hat.at_
        obtain ⟨A4, c4, rfl, _⟩ := hat.kids.shape
        clear hone hkid hst hcell hat he1 he2 hn hns
        have hzk : k = 0 ∨ ∃ j, k = j + 1 := by
          cases k with
          | zero => exact .inl rfl
          | succ j => exact .inr ⟨j, rfl⟩
        have HLT := Lib.hid hlt
        rcases hzk with hzk | ⟨j, hj⟩
        case' inl =>
          have hbf : bb = false := by rw [← hbb, hzk]; rfl
          subst hbf
          have i1 : (k : Int) < (l.length : Int) := by omega
          have D0 : decide (0 < k) = false := by simp [hzk]
          clear hlt hk hzk
        case' inr =>
          obtain ⟨m, hm⟩ : ∃ m, l[j]? = some m := ⟨_, List.getElem?_eq_getElem (by omega)⟩
          obtain ⟨ma, mk, hmt⟩ := HCE.out j m hm
          have p0 : wr.cell? ⟨b, o + j * 5, none⟩ = some (.int .i64 m.kind) := (hbel.cell (p := ⟨b, o + j * 5, none⟩) hbw).trans hmt.c0
          have hmb : (m.kind == 2) = bb := by
            rw [hj] at hbb
            exact (prevT_one hm).symm.trans hbb
          clear hm hmt
          have i0 : 0 < k := by omega
          have D0 : decide (0 < k) = true := decide_eq_true i0
          have i1 : (k : Int) < (l.length : Int) := by omega
          have i2 : (j : Int) < (l.length : Int) := by omega
          have i3 : (k : Int) - 1 = (j : Int) := by omega
          have i4 : IntKind.i64.wrap (j : Int) = (j : Int) := by rw [IntKind.wrap_i64]; omega
          clear hj hlt hk
        all_goals
          clear hbb HCE
          go_wp2_with fail
          go_still_tail 15, (by kernel_rfl)
          change wpList _ _ _ _ _ wr.drew
          go_wp2_with fail
          refine (HONE.out _ hbel.drew).mono ?_
          rintro e w1 ⟨rfl, hb1⟩
          have hB1 : Below w.heap.size w w1 := hbel.drew.trans (hb1.mono (by have := hbel.size; simpa using this))
          have w4 := (hb1.cell (p := ⟨b, _, none⟩) (Nat.lt_of_lt_of_le hbw (by have := hbel.size; simpa using this))).trans ((World.cell?_drew _ _).trans q4)
          clear q0 q1 q2 q3 q4
          by_cases hz1 : e1 = 0
          · subst hz1
            go_wp2_with fail
            refine (HKID.out _ hB1).mono ?_
            rintro e w2 ⟨rfl, hb2⟩
            have hB2 : Below w.heap.size w w2 := below_after hB1 hb2
            by_cases hz2 : e2 = 0
            · subst hz2
              go_wp2_with fail
              go_roundw
              case rel =>
                have hL := HLT.out
                exact ⟨_, by go_num, by omega, HST.out, hB2⟩
              case measure =>
                have hL := HLT.out
                simp [intOf]
                omega
            · have hf : (e2 != 0) = true := by simp [hz2]
              have HZ := Lib.hid hz2
              clear hz2
              go_wp2_with fail
              go_ret
              refine ⟨?_, hB2⟩
              have h := HST.out
              simp only [↓reduceIte, if_neg HZ.out] at h
              rw [h]
              rfl
          · have hf : (e1 != 0) = true := by simp [hz1]
            have HZ := Lib.hid hz1
            clear hz1
            go_wp2_with fail
            go_ret
            refine ⟨?_, hB1⟩
            rw [HST.out, if_neg HZ.out]
            rfl
      · have he : k = l.length := by omega
        subst he
        go_wp2_with fail
        go_ret
        refine ⟨?_, hbel⟩
        rw [HIS.out, List.drop_length, mayL_nil]
        rfl
end Go.Proofs.YthmnnalamaponaaGreat

/- Part StaR. -/
namespace Go.Proofs.YthmnnalamaponaaGreat
open Go.RowKit
set_option linter.unusedVariables false

/-- Nodes may be, and are stable. -/
def stableB (l : List Nd) : Bool := decide (mayL false l = 0) && stL l

set_option maxHeartbeats 1000000 in
theorem stableR_any (l : List Nd) (S : Nat → Prop) (v : Value) (w : World) (hT : Tree S w l v) (hS : ∀ b, S b → b < w.heap.size) (hsz : szL l ≤ 100000) :
    Calls Tryz.prog 9 #[v] w fun e w' => e = .returned (.bool (stableB l)) ∧ Below w.heap.size w w' := by
  have HM := Lib.hid (mayR_any l S v w hT hS hsz)
  have HA := Lib.hid (fun (W : World) (h : Below w.heap.size w W) => allR_any l S v W (hT.keep (Kept.belowB h hS)) (fun b hb => Nat.lt_of_lt_of_le (hS b hb) h.size) hsz)
  obtain ⟨A, c, rfl, _⟩ := hT.shape
  obtain ⟨m, hm⟩ : ∃ m, mayL false l = m := ⟨_, rfl⟩
  have hst : stableB l = (decide (m = 0) && stL l) := by unfold stableB; rw [hm]
  rw [hm] at HM
  have HST := Lib.hid hst
  clear hT hst hm
  by_cases h0 : m = 0
  · subst h0
    have HK := Lib.hid (show stableB l = stL l by rw [HST.out]; rfl)
    go_enter Tryz.func9, Tryz.ntmps9
    go_wp2_with fail
    refine HM.out.mono ?_
    rintro e w1 ⟨rfl, hb1⟩
    have HA1 := Lib.hid (HA.out w1 hb1)
    go_wp2_with fail
    refine HA1.out.mono ?_
    rintro e w2 ⟨rfl, hb2⟩
    go_wp2_with fail
    go_ret
    rw [HK.out]
    exact ⟨rfl, below_after hb1 hb2⟩
  · have B0 : (m == 0) = false := by simp [h0]
    have HK := Lib.hid (show stableB l = false by rw [HST.out, decide_eq_false h0]; rfl)
    clear h0
    go_enter Tryz.func9, Tryz.ntmps9
    go_wp2_with fail
    refine HM.out.mono ?_
    rintro e w1 ⟨rfl, hb1⟩
    go_wp2_with fail
    go_ret
    rw [HK.out]
    exact ⟨rfl, hb1⟩

end Go.Proofs.YthmnnalamaponaaGreat

/- Part Mdl. -/
namespace Go.Proofs.YthmnnalamaponaaGreat
open Go.RowKit
set_option linter.unusedVariables false

/-- Closes tells what the document says. -/
def ClosesSaid : Prop := ∀ (o b : ByteArray) (w : World), o.size ≤ maxLen → Calls Tryz.prog 185 #[.string o, .string b] w fun e w' => e = .returned (.bool (closesB o.data.toList b.data.toList)) ∧ Below w.heap.size w w'
/-- Nodes of a bounded size are such as a row may hand in. -/
theorem fine_of : ∀ l : List Nd, szL l ≤ 1000000 → Fine l := by
  refine sz_ind fun l ih h => ?_
  have hlen := szL_len l
  refine .mk l (by unfold maxLen; omega) (fun n hn => ?_) (fun n hn => ?_)
  · have hz := mem_sz hn
    rw [szN_eq] at hz
    have ha := szA_len n.attrs
    refine ⟨by unfold maxLen; omega, by unfold maxLen; omega, by unfold maxLen; omega, fun a ha => ?_⟩
    obtain ⟨j, hj, he⟩ := List.mem_iff_getElem.1 ha
    have := szA_at (List.getElem?_eq_some_iff.2 ⟨hj, he⟩)
    exact ⟨by unfold maxLen; omega, by unfold maxLen; omega⟩
  · have hz := mem_sz hn
    rw [szN_eq] at hz
    exact ih _ (by omega) (by omega)

theorem all_take {p : Nd → Bool} {l : List Nd} {j : Nat} {x : Nd} (h : l[j]? = some x) : (l.take (j + 1)).all p = ((l.take j).all p && p x) := by
  rw [List.take_add_one, h, List.all_append]
  simp

/-- The first 20 bytes. -/
def few6S (s : ByteArray) : ByteArray := if 20 < s.size then s.extract 0 20 else s
theorem few6S_size (s : ByteArray) : (few6S s).size ≤ 20 := by
  unfold few6S
  split
  · rw [ByteArray.size_extract]; omega
  · omega
theorem lv_1 : closesB [112] [100, 105, 118] = true := by decide +kernel
theorem lv_2 : fitsB [112] (.mk 1 ⟨#[100, 105, 118]⟩ [] ⟨#[]⟩ []) = false := by decide +kernel
theorem lv_3 : fitsB [115, 99, 114, 105, 112, 116] (.mk 1 ⟨#[98]⟩ [] ⟨#[]⟩ []) = false := by decide +kernel
theorem lv_4 : stableB [] = true := by rfl

end Go.Proofs.YthmnnalamaponaaGreat

/- Part ParM. -/
namespace Go.Proofs.YthmnnalamaponaaGreat
set_option linter.unusedVariables false
set_option linter.unusedSimpArgs false

theorem rt_esc {v : Bool} {l : List UInt8} (h : isB l = true) : isB (escB v l) = true := by
  obtain ⟨L, hL, rfl⟩ := isB_chars _ _ (Nat.le_refl _) h
  obtain ⟨M, hM, he⟩ := esc_right v L hL
  rw [he]
  exact isB_enc _ hM
theorem rt_lit (l : List UInt8) (h : l.all (fun c => decide (c.toNat < 128) && decide (c.toNat ≠ 0) && decide (c.toNat ≠ 13)) = true) : isB l = true := by
  refine asc_right l fun c hc => ?_
  have := List.all_eq_true.1 h c hc
  rw [Bool.and_eq_true, Bool.and_eq_true, decide_eq_true_eq, decide_eq_true_eq, decide_eq_true_eq] at this
  exact ⟨this.1.1, this.1.2, this.2⟩
theorem rt_attT {a : ByteArray × ByteArray} (h1 : attrB a.1.data.toList = true) (h2 : isB a.2.data.toList = true) : isB (attT a) = true := by
  have e : attT a = [32] ++ a.1.data.toList ++ [61, 34] ++ escB true a.2.data.toList ++ [34] := by unfold attT; simp
  rw [e]
  exact rt_app (rt_app (rt_app (rt_app (rt_lit _ rfl) (attr_form h1).2.2) (rt_lit _ rfl)) (rt_esc h2)) (rt_lit _ rfl)
theorem rt_atts : ∀ l : List (ByteArray × ByteArray), (∀ a ∈ l, attrB a.1.data.toList = true ∧ isB a.2.data.toList = true) → isB (l.flatMap attT) = true
  | [], _ => rfl
  | a :: l, h => by
    rw [List.flatMap_cons]
    exact rt_app (rt_attT (h a (by simp)).1 (h a (by simp)).2) (rt_atts l fun x hx => h x (List.mem_cons_of_mem _ hx))
theorem rt_open {n : Nd} (hn : namedB n.name.data.toList = true) (ha : attrsOK n.attrs) : isB (openT n) = true := by
  have e : openT n = [60] ++ n.name.data.toList ++ n.attrs.flatMap attT ++ [62] := by unfold openT; simp
  rw [e]
  exact rt_app (rt_app (rt_app (rt_lit _ rfl) (namedB_right hn)) (rt_atts _ ha.1)) (rt_lit _ rfl)
theorem rt_close {n : Nd} (hn : namedB n.name.data.toList = true) : isB (closeT n) = true := by
  have e : closeT n = [60, 47] ++ n.name.data.toList ++ [62] := by unfold closeT; simp
  rw [e]
  exact rt_app (rt_app (rt_lit _ rfl) (namedB_right hn)) (rt_lit _ rfl)
/-- What is written of nodes that may be is right. -/
theorem rt_txt : ∀ l : List Nd, GoodL l → ∀ raw, isB (txtL raw l) = true := by
  intro l
  induction l using nd_ind with
  | h l ih =>
    intro hg raw
    have key : ∀ m : List Nd, (∀ x ∈ m, nodeOK x) → (∀ x ∈ m, ∀ r, isB (txtL r x.kids) = true) → isB (txtL raw m) = true := by
      intro m
      induction m with
      | nil => intro _ _; rw [txtL_nil]; rfl
      | cons x m ihm =>
        intro h1 h2
        rw [txtL_cons]
        refine rt_app ?_ (ihm (fun y hy => h1 y (by simp [hy])) (fun y hy => h2 y (by simp [hy])))
        rw [txtN_eq]
        rcases h1 x (by simp) with ⟨hk, hn, _, ha⟩ | ⟨hk, _, _, _, ht⟩
        · rw [if_neg (by omega), if_neg (by omega), if_pos hk]
          split
          · exact rt_open hn ha
          · exact rt_app (rt_open hn ha) (rt_app (h2 x (by simp) _) (rt_close hn))
        · rcases hk with hk | hk
          · rw [if_neg (by omega), if_pos hk]
            split
            · exact ht
            · exact rt_esc ht
          · rw [if_pos hk]
            have e : (60 :: 33 :: 45 :: 45 :: (x.text.data.toList ++ [45, 45, 62]) : List UInt8) = [60, 33, 45, 45] ++ x.text.data.toList ++ [45, 45, 62] := by simp
            rw [e]
            exact rt_app (rt_app (rt_lit _ rfl) ht) (rt_lit _ rfl)
    refine key l hg.nodes fun x hx r => ?_
    obtain ⟨i, hi, he⟩ := List.mem_iff_getElem.1 hx
    exact ih i x (by rw [List.getElem?_eq_getElem hi, he]) (hg.kids x hx) r

/-- Nodes that may be are as they were, written and parsed, just if they are stable. -/
theorem keep_iff {l : List Nd} (h : GoodL l) : parseB (txtL false l) = l ↔ stL l = true := by
  refine ⟨fun e => ?_, fun hs => parse_write h hs⟩
  have := (parse_ok (rt_txt l h false)).2
  rwa [e] at this

/-- A text alone. -/
theorem tok_alone (s : List UInt8) : tokB (escB false s) = if s = [] then [] else [tkC s] := by
  by_cases h : s = []
  · rw [if_pos h, h, escB_nil, tokB_nil]
  · have := tok_text (rest := []) h (.inl rfl)
    rw [List.append_nil, tokB_nil] at this
    rw [if_neg h, this]

/-- Elements that are neither void nor raw, without kids. -/
def emptied (n : Nd) : Nd := .mk n.kind n.name n.attrs n.text []
def plainE (n : Nd) : Bool := decide (n.kind = 1) && !rawB n.name.data.toList && !voidB n.name.data.toList
theorem bare_good {l : List Nd} (h : ∀ n ∈ l, nodeOK n) : GoodL ((l.filter plainE).map emptied) ∧ stL ((l.filter plainE).map emptied) = true := by
  have hp : ∀ x ∈ (l.filter plainE).map emptied, nodeOK x ∧ x.kind = 1 ∧ x.kids = [] := by
    intro x hx
    obtain ⟨n, hn, rfl⟩ := List.mem_map.1 hx
    obtain ⟨hn, hp⟩ := List.mem_filter.1 hn
    unfold plainE at hp
    rw [Bool.and_eq_true, Bool.and_eq_true, decide_eq_true_eq] at hp
    rcases h n hn with ⟨h1, h2, h3, h4⟩ | ⟨h1, _⟩
    · exact ⟨.inl ⟨h1, h2, h3, h4⟩, h1, rfl⟩
    · have := hp.1.1; omega
  have hs : ∀ (m : List Nd) (b : Bool), (∀ x ∈ m, x.kind = 1) → sides b m := by
    intro m
    induction m with
    | nil => intro _ _; trivial
    | cons x m ih =>
      intro b hm
      exact ⟨fun h2 => by have := hm x (by simp); omega, ih _ fun y hy => hm y (by simp [hy])⟩
  refine ⟨.mk _ (fun x hx => (hp x hx).1) (hs _ _ fun x hx => (hp x hx).2.1) (fun x hx => by rw [(hp x hx).2.2]; exact GoodL.nil), ?_⟩
  rw [stL_all, List.all_eq_true]
  intro x hx
  have h1 := hp x hx
  rw [stN_eq, h1.2.1, h1.2.2, stL_nil]
  rfl
def bareTags (n : Nd) : List Tk := [tkB n.name.data.toList n.attrs, tkE n.name.data.toList]
theorem bare_tags (l : List Nd) : tagsL ((l.filter plainE).map emptied) = (l.filter plainE).flatMap bareTags := by
  induction l with
  | nil => simp [tagsL_nil]
  | cons n l ih =>
    rw [List.filter_cons]
    split
    · rename_i hp
      unfold plainE at hp
      rw [Bool.and_eq_true, Bool.and_eq_true, decide_eq_true_eq] at hp
      rw [List.map_cons, tagsL_cons, ih, List.flatMap_cons, tagsN_eq]
      have hv : voidB n.name.data.toList = false := by simpa using hp.2
      show (if n.kind = 1 then tkB n.name.data.toList n.attrs :: (if voidB n.name.data.toList = true then [] else tagsL [] ++ [tkE n.name.data.toList]) else _) ++ _ = _
      rw [if_pos hp.1.1, hv, if_neg (by decide), tagsL_nil]
      rfl
    · exact ih
theorem tok_bare {l : List Nd} (h : ∀ n ∈ l, nodeOK n) : tokB (txtL false ((l.filter plainE).map emptied)) = (l.filter plainE).flatMap bareTags := by
  obtain ⟨h1, h2⟩ := bare_good h
  have := tok_write _ h1 h2 [] (.inl rfl)
  rw [List.append_nil, tokB_nil, List.append_nil] at this
  rw [this, bare_tags]

/-! ### what is passed over -/
/-- Without quotes. -/
def unq (c : UInt8) : Bool := !decide (c = 34) && !decide (c = 39)
theorem rt_unq {l : List UInt8} (h : isB l = true) : isB (l.filter unq) = true := by
  obtain ⟨L, hL, rfl⟩ := isB_chars _ _ (Nat.le_refl _) h
  clear h
  induction L with
  | nil => rfl
  | cons r L ih =>
    have hr := hL r (by simp)
    have h0 : 0 ≤ r := by have := hr.1; unfold okR at this; omega
    rw [enc_cons, List.filter_append]
    refine rt_app ?_ (ih fun x hx => hL x (by simp [hx]))
    by_cases h127 : r ≤ 127
    · rw [enc_one h0 h127, List.filter_cons]
      split
      · have := isB_enc [r] (fun x hx => by simp only [List.mem_singleton] at hx; subst hx; exact hr)
        rwa [enc_cons, enc_nil, List.append_nil, enc_one h0 h127] at this
      · rfl
    · have : (Lib.encodeRune r).filter unq = Lib.encodeRune r := by
        rw [List.filter_eq_self]
        intro c hc
        have h1 := enc_high hr.1 (by omega) c hc
        have h2 : c ≠ 34 := fun e => by subst e; exact absurd h1 (by decide)
        have h3 : c ≠ 39 := fun e => by subst e; exact absurd h1 (by decide)
        simp [unq, h2, h3]
      rw [this]
      have := isB_enc [r] (fun x hx => by simp only [List.mem_singleton] at hx; subst hx; exact hr)
      rwa [enc_cons, enc_nil, List.append_nil] at this
def blanksOne (v : List UInt8) : List UInt8 := [60, 97, 32, 120, 61, 34] ++ v ++ [34, 62]
def blanksTwo (v : List UInt8) : List UInt8 := [60, 65, 32, 10, 47, 32, 61, 32, 88, 9, 61, 32, 39] ++ v ++ [39, 32, 47, 32, 62]
theorem quote_val {q : UInt8} (hq : q = 34 ∨ q = 39) {v X : List UInt8} (hv : ∀ c ∈ v, c ≠ q) : valOf (q :: (v ++ q :: X)) = some (v, X) := by
  have hqq : neC q q = false := by simp [neC]
  have h := take_stop (p := neC q) (d := q) (X := X) (a := v) (fun c hc => by have := hv c hc; simp [neC, this]) hqq
  rw [valOf_cons, if_pos hq, if_pos (by simp), h.1, h.2]
  rfl
theorem blanks_one {v : List UInt8} (hv : ∀ c ∈ v, unq c = true) : tokB (blanksOne v) = [tkB [97] [(tB [120], tB (decB v))]] := by
  have h34 : ∀ c ∈ v, c ≠ 34 := fun c hc e => by have := hv c hc; subst e; cases this
  have e : blanksOne v = 60 :: 97 :: 32 :: 120 :: 61 :: 34 :: (v ++ 34 :: [62]) := by unfold blanksOne; simp
  have hat : attOf (120 :: 61 :: 34 :: (v ++ 34 :: [62])) = some ((tB [120], tB (decB v)), [62]) := by
    rw [attOf_eq (show behind (120 :: 61 :: 34 :: (v ++ 34 :: [62])) = 61 :: (34 :: (v ++ 34 :: [62])) from rfl)]
    have hv1 : valOf ((34 :: (v ++ 34 :: [62])).dropWhile blC) = some (v, [62]) := quote_val (.inl rfl) h34
    rw [hv1]
    rfl
  have hatts : attsOf [] ((97 :: 32 :: 120 :: 61 :: 34 :: (v ++ 34 :: [62])).dropWhile tagC) = some ([(tB [120], tB (decB v))], []) := by
    show attsOf [] (32 :: 120 :: 61 :: 34 :: (v ++ 34 :: [62])) = _
    rw [attsOf_skip [] _ (by decide) (by decide), attsOf_some [] (by decide) hat, attsOf_end]
    rfl
  have htg : tagB (60 :: 97 :: 32 :: 120 :: 61 :: 34 :: (v ++ 34 :: [62])) = (some (tkB [97] [(tB [120], tB (decB v))]), []) := by
    rw [tagB_letter (by decide), hatts]
    rfl
  have hraw : rawTk (tkB [97] [(tB [120], tB (decB v))]) = false := by
    unfold rawTk tkB
    rw [tB_list]
    rfl
  rw [e, tokB_tag (k := tkB [97] [(tB [120], tB (decB v))]) rfl (by rw [htg]) hraw, htg, tokB_nil]
theorem blanks_two {v : List UInt8} (hv : ∀ c ∈ v, unq c = true) : tokB (blanksTwo v) = [tkB [97] [(tB [120], tB (decB v))]] := by
  have h39 : ∀ c ∈ v, c ≠ 39 := fun c hc e => by have := hv c hc; subst e; cases this
  have e : blanksTwo v = 60 :: 65 :: 32 :: 10 :: 47 :: 32 :: 61 :: 32 :: 88 :: 9 :: 61 :: 32 :: 39 :: (v ++ 39 :: [32, 47, 32, 62]) := by unfold blanksTwo; simp
  have hat : attOf (88 :: 9 :: 61 :: 32 :: 39 :: (v ++ 39 :: [32, 47, 32, 62])) = some ((tB [120], tB (decB v)), [32, 47, 32, 62]) := by
    rw [attOf_eq (show behind (88 :: 9 :: 61 :: 32 :: 39 :: (v ++ 39 :: [32, 47, 32, 62])) = 61 :: (32 :: 39 :: (v ++ 39 :: [32, 47, 32, 62])) from rfl)]
    have hv1 : valOf ((32 :: 39 :: (v ++ 39 :: [32, 47, 32, 62])).dropWhile blC) = some (v, [32, 47, 32, 62]) := quote_val (.inr rfl) h39
    rw [hv1]
    rfl
  have hatts : attsOf [] ((65 :: 32 :: 10 :: 47 :: 32 :: 61 :: 32 :: 88 :: 9 :: 61 :: 32 :: 39 :: (v ++ 39 :: [32, 47, 32, 62])).dropWhile tagC) = some ([(tB [120], tB (decB v))], []) := by
    show attsOf [] (32 :: 10 :: 47 :: 32 :: 61 :: 32 :: 88 :: 9 :: 61 :: 32 :: 39 :: (v ++ 39 :: [32, 47, 32, 62])) = _
    rw [attsOf_skip [] _ (by decide) (by decide), attsOf_skip [] _ (by decide) (by decide), attsOf_skip [] _ (by decide) (by decide), attsOf_skip [] _ (by decide) (by decide), attsOf_skip [] _ (by decide) (by decide), attsOf_skip [] _ (by decide) (by decide),
      attsOf_some [] (by decide) hat]
    show attsOf (addA [] (tB [120], tB (decB v))) [32, 47, 32, 62] = _
    rw [attsOf_skip _ _ (by decide) (by decide), attsOf_skip _ _ (by decide) (by decide), attsOf_skip _ _ (by decide) (by decide), attsOf_end]
    rfl
  have htg : tagB (60 :: 65 :: 32 :: 10 :: 47 :: 32 :: 61 :: 32 :: 88 :: 9 :: 61 :: 32 :: 39 :: (v ++ 39 :: [32, 47, 32, 62])) = (some (tkB [97] [(tB [120], tB (decB v))]), []) := by
    rw [tagB_letter (by decide), hatts]
    rfl
  have hraw : rawTk (tkB [97] [(tB [120], tB (decB v))]) = false := by
    unfold rawTk tkB
    rw [tB_list]
    rfl
  rw [e, tokB_tag (k := tkB [97] [(tB [120], tB (decB v))]) rfl (by rw [htg]) hraw, htg, tokB_nil]

end Go.Proofs.YthmnnalamaponaaGreat

/- Part TokZ. -/
namespace Go.Proofs.YthmnnalamaponaaGreat
set_option linter.unusedVariables false
set_option linter.unusedSimpArgs false

def szK (k : Tk) : Nat := 10 + k.name.size + k.text.size + szA k.attrs
def szKs : List Tk → Nat
  | [] => 0
  | k :: l => szK k + szKs l
theorem szKs_append : ∀ a b : List Tk, szKs (a ++ b) = szKs a + szKs b
  | [], b => by simp [szKs]
  | k :: a, b => by rw [List.cons_append]; simp only [szKs]; rw [szKs_append a b]; omega
theorem szKs_mem : ∀ {l : List Tk} {k : Tk}, k ∈ l → szK k ≤ szKs l
  | x :: l, k, h => by
    simp only [szKs]
    rcases List.mem_cons.1 h with rfl | h
    · omega
    · have := szKs_mem h; omega
theorem szKs_len : ∀ l : List Tk, 10 * l.length ≤ szKs l
  | [] => by simp [szKs]
  | k :: l => by
    have := szKs_len l
    simp only [szKs, List.length_cons]
    unfold szK
    omega
theorem szK_chars (t : List UInt8) : szK (tkC t) = 10 + t.length := by
  show 10 + (tB []).size + (tB t).size + szA [] = _
  rw [tB_size, tB_size]
  simp [szA]
theorem szK_remark (t : List UInt8) : szK (tkR t) = 10 + t.length := by
  show 10 + (tB []).size + (tB t).size + szA [] = _
  rw [tB_size, tB_size]
  simp [szA]
theorem szK_end (t : List UInt8) : szK (tkE t) = 10 + t.length := by
  show 10 + (tB t).size + (tB []).size + szA [] = _
  rw [tB_size, tB_size]
  simp [szA]
theorem szK_begin (t : List UInt8) (ats : List (ByteArray × ByteArray)) : szK (tkB t ats) = 10 + t.length + szA ats := by
  show 10 + (tB t).size + (tB []).size + szA ats = _
  rw [tB_size, tB_size]
  simp

theorem while_len {p : UInt8 → Bool} (l : List UInt8) : (l.takeWhile p).length + (l.dropWhile p).length = l.length := by
  rw [← List.length_append, List.takeWhile_append_dropWhile]
theorem valOf_sum {l : List UInt8} {x : List UInt8 × List UInt8} (h : valOf l = some x) : x.1.length + x.2.length ≤ l.length := by
  cases l with
  | nil =>
    have h' : some (([], []) : List UInt8 × List UInt8) = some x := h
    injection h' with h'
    subst h'
    simp
  | cons q r =>
    rw [valOf_cons] at h
    split at h
    · split at h
      · injection h with h
        subst h
        have := while_len (p := neC q) r
        simp only [List.length_drop, List.length_cons]
        omega
      · cases h
    · injection h with h
      subst h
      have := while_len (p := valC) (q :: r)
      show (List.takeWhile valC (q :: r)).length + (List.dropWhile valC (q :: r)).length ≤ _
      omega
theorem attOf_sz {c : UInt8} {r : List UInt8} {x : (ByteArray × ByteArray) × List UInt8} (h : attOf (c :: r) = some x) : x.1.1.size + x.1.2.size + x.2.length ≤ (c :: r).length := by
  have h1 := behind_len (c :: r)
  have h2 := while_len (p := goC) (c :: r)
  have hn : (tB (nameAt (c :: r))).size = ((c :: r).takeWhile goC).length := by rw [tB_size]; unfold nameAt; rw [List.length_map]
  cases hb : behind (c :: r) with
  | nil =>
    rw [attOf_nil hb] at h
    injection h with h
    subst h
    show (tB (nameAt (c :: r))).size + (tB []).size + 0 ≤ _
    rw [hn, tB_size]
    simp only [List.length_nil]
    omega
  | cons c' r' =>
    rw [hb, List.length_cons] at h1
    by_cases he : c' = 61
    · subst he
      rw [attOf_eq hb] at h
      cases hv : valOf (r'.dropWhile blC) with
      | none => rw [hv] at h; cases h
      | some y =>
        rw [hv] at h
        injection h with h
        subst h
        have h3 := valOf_sum hv
        have h4 := drop_len blC r'
        have h5 := decB_len _ y.1 (Nat.le_refl _)
        show (tB (nameAt (c :: r))).size + (tB (decB y.1)).size + y.2.length ≤ _
        rw [hn, tB_size]
        omega
    · rw [attOf_other hb he] at h
      injection h with h
      subst h
      show (tB (nameAt (c :: r))).size + (tB []).size + (c' :: r').length ≤ _
      rw [hn, tB_size, List.length_cons]
      simp only [List.length_nil]
      omega
theorem addA_sz (acc : List (ByteArray × ByteArray)) (a : ByteArray × ByteArray) : szA (addA acc a) ≤ szA acc + (10 + a.1.size + a.2.size) := by
  unfold addA
  split
  · omega
  · rw [szA_append]
    simp only [szA]
    omega
theorem attsOf_sz : ∀ (n : Nat) (l : List UInt8) (acc : List (ByteArray × ByteArray)) (x : List (ByteArray × ByteArray) × List UInt8), l.length ≤ n → attsOf acc l = some x → szA x.1 + 11 * x.2.length ≤ szA acc + 11 * l.length
  | n, [], acc, x, _, h => by rw [attsOf_nil] at h; cases h
  | 0, c :: r, acc, x, hn, h => by simp at hn
  | n + 1, c :: r, acc, x, hn, h => by
    rw [List.length_cons] at hn ⊢
    by_cases h1 : c = 62
    · subst h1
      rw [attsOf_end] at h
      injection h with h
      subst h
      show szA acc + 11 * r.length ≤ _
      omega
    cases h2 : stopC c with
    | true =>
      rw [attsOf_skip acc r h1 h2] at h
      have := attsOf_sz n r acc x (by omega) h
      omega
    | false =>
      cases h3 : attOf (c :: r) with
      | none => rw [attsOf_none acc h2 h3] at h; cases h
      | some y =>
        rw [attsOf_some acc h2 h3] at h
        have h4 := attOf_len h2 h3
        have h5 := attOf_sz h3
        have h6 := addA_sz acc y.1
        rw [List.length_cons] at h4 h5
        have := attsOf_sz n y.2 _ x (by omega) h
        omega
theorem upTo3_sum : ∀ l : List UInt8, (upTo3 l).1.length + (upTo3 l).2.length ≤ l.length := by
  intro l
  rcases upTo3_form l with ⟨h1, h2⟩ | h1
  · rw [h2, ← h1]; simp
  · have := congrArg List.length h1
    simp only [List.length_append, List.length_cons] at this
    omega
theorem upTo1_sum (l : List UInt8) : (upTo1 l).1.length + (upTo1 l).2.length ≤ l.length := by
  have := while_len (p := neC 62) l
  show (l.takeWhile (neC 62)).length + ((l.dropWhile (neC 62)).drop 1).length ≤ _
  rw [List.length_drop]
  omega
theorem name_len (l : List UInt8) : ((l.takeWhile tagC).map lowB).length ≤ l.length := by
  have := while_len (p := tagC) l
  rw [List.length_map]
  omega
theorem slashB_sz (l : List UInt8) : ∀ k, (slashB l).1 = some k → szK k ≤ 10 + l.length := by
  intro k hk
  cases l with
  | nil =>
    have hk' : some (tkR []) = some k := hk
    injection hk' with hk'
    subst hk'
    rw [szK_remark]
    omega
  | cons d r =>
    have h1 := upTo1_sum (d :: r)
    have h2 := name_len (d :: r)
    rw [slashB_cons] at hk
    split at hk
    · cases hk
    · split at hk
      · split at hk
        · injection hk with hk
          subst hk
          rw [szK_end]
          omega
        · cases hk
      · injection hk with hk
        subst hk
        rw [szK_remark]
        omega
theorem tagB_sz {l : List UInt8} (h : startsB l = true) : ∀ k, (tagB l).1 = some k → szK k + 21 * (tagB l).2.length ≤ 21 * l.length := by
  intro k hk
  have hlen := tagB_len h
  obtain ⟨c, r, rfl, hc⟩ := starts_form h
  cases hlc : letC c with
  | true =>
    rw [tagB_letter hlc] at hk hlen ⊢
    cases ha : attsOf [] ((c :: r).dropWhile tagC) with
    | none => rw [ha] at hk; cases hk
    | some x =>
      rw [ha] at hk
      injection hk with hk
      subst hk
      have h1 := attsOf_sz _ _ [] x (Nat.le_refl _) ha
      have h2 := attsOf_len _ _ _ x (Nat.le_refl _) ha
      have h3 := while_len (p := tagC) (c :: r)
      rw [szK_begin, List.length_map]
      show 10 + _ + szA x.1 + 21 * x.2.length ≤ _
      simp only [szA] at h1
      rw [List.length_cons, List.length_cons]
      rw [List.length_cons] at h3
      omega
  | false =>
    cases hp : Lib.hasPrefix (c :: r) [33, 45, 45] with
    | true =>
      obtain ⟨t, ht⟩ := pre_form3 hp
      injection ht with h1 h2
      subst h1
      subst h2
      rw [tagB_remark] at hk ⊢
      injection hk with hk
      subst hk
      have := upTo3_sum t
      rw [szK_remark]
      show 10 + (upTo3 t).1.length + 21 * (upTo3 t).2.length ≤ _
      simp only [List.length_cons]
      omega
    | false =>
      by_cases h4 : c = 47
      · subst h4
        rw [tagB_slash] at hk hlen ⊢
        have h5 := slashB_sz r k hk
        have h6 : szK k + 21 * (slashB r).2.length ≤ 21 * (r.length + 2) := by
          cases r with
          | nil =>
            have h7 := slashB_len ([] : List UInt8)
            simp only [List.length_nil] at h5 h7 ⊢
            omega
          | cons d r =>
            have h8 := upTo1_sum (d :: r)
            have h9 := name_len (d :: r)
            rw [slashB_cons] at hk ⊢
            split at hk
            · cases hk
            · rename_i hd
              rw [if_neg hd]
              split at hk
              · rename_i hl
                rw [if_pos hl]
                split at hk
                · rename_i h62
                  rw [if_pos h62]
                  injection hk with hk
                  subst hk
                  rw [szK_end]
                  have htw : ((d :: r).takeWhile tagC).length ≤ (upTo1 (d :: r)).1.length := by
                    show _ ≤ ((d :: r).takeWhile (neC 62)).length
                    have key : ∀ l : List UInt8, (l.takeWhile tagC).length ≤ (l.takeWhile (neC 62)).length := by
                      intro l
                      induction l with
                      | nil => exact Nat.le_refl _
                      | cons x l ih =>
                        rw [List.takeWhile_cons, List.takeWhile_cons]
                        split
                        · rename_i hx
                          have : neC 62 x = true := by
                            by_cases e : x = 62
                            · subst e; cases hx
                            · simp [neC, e]
                          rw [if_pos this]
                          simp only [List.length_cons]
                          omega
                        · exact Nat.zero_le _
                    exact key _
                  rw [List.length_map]
                  show 10 + _ + 21 * (upTo1 (d :: r)).2.length ≤ _
                  omega
                · cases hk
              · rename_i hl
                rw [if_neg hl]
                injection hk with hk
                subst hk
                rw [szK_remark]
                show 10 + _ + 21 * (upTo1 (d :: r)).2.length ≤ _
                omega
        simp only [List.length_cons]
        omega
      · rw [tagB_other hlc hp h4] at hk ⊢
        injection hk with hk
        subst hk
        have := upTo1_sum r
        rw [szK_remark]
        show 10 + (upTo1 r).1.length + 21 * (upTo1 r).2.length ≤ _
        simp only [List.length_cons]
        omega
theorem rawBody_sz (l : List UInt8) : szKs (rawBody l) ≤ 21 * l.length := by
  unfold rawBody
  split
  · exact Nat.zero_le _
  · rename_i h
    have : 0 < l.length := List.length_pos_iff.2 h
    simp only [szKs]
    rw [szK_chars]
    omega
/-- All tokens together are no greater than the text, but for a factor. -/
theorem tok_sz : ∀ (n : Nat) (l : List UInt8), l.length ≤ n → szKs (tokB l) ≤ 21 * l.length
  | n, [], _ => by rw [tokB_nil]; exact Nat.zero_le _
  | 0, c :: r, hn => by simp at hn
  | n + 1, c :: r, hn => by
    cases hst : startsB (c :: r) with
    | false =>
      rw [tokB_chars hst]
      have h1 := charsB_less hst
      have h2 := congrArg List.length (charsB_app (c :: r)).1
      have h3 := decB_len _ (charsB (c :: r)).1 (Nat.le_refl _)
      have h4 := tok_sz n (charsB (c :: r)).2 (by omega)
      rw [List.length_append] at h2
      simp only [szKs]
      rw [szK_chars]
      omega
    | true =>
      have h1 := tagB_len hst
      cases ht : (tagB (c :: r)).1 with
      | none =>
        rw [tokB_none hst ht]
        have := tok_sz n (tagB (c :: r)).2 (by omega)
        omega
      | some k =>
        have h2 := tagB_sz hst k ht
        cases hr : rawTk k with
        | false =>
          rw [tokB_tag hst ht hr]
          have := tok_sz n (tagB (c :: r)).2 (by omega)
          simp only [szKs]
          omega
        | true =>
          rw [tokB_raw hst ht hr]
          have hlen := cutEnd_len k.name.data.toList (tagB (c :: r)).2
          have h3 := tok_sz n (cutEnd k.name.data.toList (tagB (c :: r)).2).2 (by omega)
          have h4 := rawBody_sz (cutEnd k.name.data.toList (tagB (c :: r)).2).1
          have h5 := congrArg List.length (cutEnd_app k.name.data.toList (tagB (c :: r)).2)
          rw [List.length_append] at h5
          simp only [szKs]
          rw [szKs_append]
          omega

end Go.Proofs.YthmnnalamaponaaGreat

/- Part TreZ. -/
namespace Go.Proofs.YthmnnalamaponaaGreat
set_option linter.unusedVariables false

def szF (f : Fr) : Nat := 10 + f.name.size + szA f.attrs + szL f.kids
def szFs : List Fr → Nat
  | [] => 0
  | f :: l => szF f + szFs l
def szB (s : Bst) : Nat := szFs s.fs + szL s.out
theorem add_sz (s : Bst) (n : Nd) : szB (addTo s n) ≤ szB s + szN n := by
  obtain ⟨fs, out⟩ := s
  cases fs with
  | nil =>
    have := mstep_sz out n
    simp only [addTo, szB, szFs]
    omega
  | cons f fs =>
    have := mstep_sz f.kids n
    simp only [addTo, szB, szFs, szF]
    omega
theorem pop_sz (s : Bst) : szB (popB s) ≤ szB s := by
  obtain ⟨fs, out⟩ := s
  cases fs with
  | nil => exact Nat.le_refl _
  | cons f fs =>
    have h := add_sz ⟨fs, out⟩ (nodeOf f)
    have e : szN (nodeOf f) = szF f := by
      unfold nodeOf szF
      rw [szN_mk]
      have : (tB []).size = 0 := rfl
      omega
    rw [e] at h
    simp only [popB, szB, szFs] at h ⊢
    omega
theorem popN_sz : ∀ (n : Nat) (s : Bst), szB (popN n s) ≤ szB s
  | 0, s => Nat.le_refl _
  | n + 1, s => Nat.le_trans (popN_sz n (popB s)) (pop_sz s)
theorem put_sz (s : Bst) (k : Tk) : szB (putB s k) ≤ szB s + szK k := by
  unfold putB szK
  have t0 : (tB []).size = 0 := rfl
  split
  · have h := popN_sz (s.fs.takeWhile (shutBy k.name.data.toList)).length s
    dsimp only
    split
    · have h2 := add_sz (popN (s.fs.takeWhile (shutBy k.name.data.toList)).length s) (.mk 1 k.name k.attrs (tB []) [])
      rw [szN_mk, szL_nil] at h2
      omega
    · simp only [szB, szFs, szF, szL_nil] at h ⊢
      omega
  · split
    · split
      · omega
      · exact Nat.le_trans (popN_sz _ _) (by omega)
    · split
      · have h2 := add_sz s (textN k.text)
        unfold textN at h2 ⊢
        rw [szN_mk, szL_nil] at h2
        simp only [szA] at h2
        omega
      · split
        · have h2 := add_sz s (remN k.text)
          unfold remN at h2 ⊢
          rw [szN_mk, szL_nil] at h2
          simp only [szA] at h2
          omega
        · omega
theorem puts_sz : ∀ (l : List Tk) (s : Bst), szB (l.foldl putB s) ≤ szB s + szKs l
  | [], s => by simp [szKs]
  | k :: l, s => by
    rw [List.foldl_cons]
    have h1 := puts_sz l (putB s k)
    have h2 := put_sz s k
    simp only [szKs]
    omega
theorem tree_sz (l : List Tk) : szL (treeB l) ≤ szKs l := by
  unfold treeB nodesB
  have h1 := puts_sz l ⟨[], []⟩
  have h2 := popN_sz (l.foldl putB ⟨[], []⟩).fs.length (l.foldl putB ⟨[], []⟩)
  have e : szB ⟨[], []⟩ = 0 := rfl
  unfold szB at h2
  have : szL (popN (l.foldl putB ⟨[], []⟩).fs.length (l.foldl putB ⟨[], []⟩)).out ≤ szFs (popN (l.foldl putB ⟨[], []⟩).fs.length (l.foldl putB ⟨[], []⟩)).fs + szL (popN (l.foldl putB ⟨[], []⟩).fs.length (l.foldl putB ⟨[], []⟩)).out := Nat.le_add_left _ _
  unfold szB at h1 e
  omega
theorem parse_sz (l : List UInt8) : szL (parseB l) ≤ 21 * l.length := Nat.le_trans (tree_sz _) (tok_sz _ l (Nat.le_refl _))

end Go.Proofs.YthmnnalamaponaaGreat

/- Part SameN. -/
namespace Go.Proofs.YthmnnalamaponaaGreat
open Go.RowKit
set_option linter.unusedVariables false

mutual
def sameN : Nd → Nd → Bool
  | .mk k n a t ks, .mk k' n' a' t' ks' => decide (k = k') && decide (n = n') && decide (t = t') && decide (a = a') && sameL ks ks'
/-- All is the same. -/
def sameL : List Nd → List Nd → Bool
  | [], [] => true
  | x :: l, y :: m => sameN x y && sameL l m
  | _, _ => false
end
theorem sameL_cons (x y : Nd) (l m : List Nd) : sameL (x :: l) (y :: m) = (sameN x y && sameL l m) := by simp [sameL]
theorem sameN_eq (x y : Nd) : sameN x y = (decide (x.kind = y.kind) && decide (x.name = y.name) && decide (x.text = y.text) && decide (x.attrs = y.attrs) && sameL x.kids y.kids) := by
  cases x
  cases y
  simp only [sameN, Nd.kind, Nd.name, Nd.text, Nd.attrs, Nd.kids]
  rfl
theorem nd_ext' {a b : Nd} (h1 : a.kind = b.kind) (h2 : a.name = b.name) (h3 : a.attrs = b.attrs) (h4 : a.text = b.text) (h5 : a.kids = b.kids) : a = b := by
  cases a
  cases b
  simp only [Nd.kind, Nd.name, Nd.attrs, Nd.text, Nd.kids] at h1 h2 h3 h4 h5
  subst h1 h2 h3 h4 h5
  rfl
theorem sameL_iff : ∀ a b : List Nd, sameL a b = true ↔ a = b := by
  intro a
  induction a using nd_ind with
  | h a ih =>
    have key : ∀ (m : List Nd), (∀ x ∈ m, ∀ b, sameL x.kids b = true ↔ x.kids = b) → ∀ b, sameL m b = true ↔ m = b := by
      intro m
      induction m with
      | nil => intro _ b; cases b <;> simp [sameL]
      | cons x m ihm =>
        intro h b
        cases b with
        | nil => simp [sameL]
        | cons y b =>
          rw [sameL_cons, Bool.and_eq_true, ihm (fun z hz => h z (by simp [hz])), sameN_eq, Bool.and_eq_true, Bool.and_eq_true, Bool.and_eq_true, Bool.and_eq_true, h x (by simp), decide_eq_true_eq, decide_eq_true_eq, decide_eq_true_eq, decide_eq_true_eq]
          constructor
          · rintro ⟨⟨⟨⟨⟨h1, h2⟩, h3⟩, h4⟩, h5⟩, rfl⟩
            rw [nd_ext' h1 h2 h4 h3 h5]
          · intro e
            injection e with e1 e2
            subst e1
            exact ⟨⟨⟨⟨⟨rfl, rfl⟩, rfl⟩, rfl⟩, rfl⟩, e2⟩
    exact key a fun x hx b => by
      obtain ⟨i, hi, he⟩ := List.mem_iff_getElem.1 hx
      exact ih i x (by rw [List.getElem?_eq_getElem hi, he]) b
theorem sameL_ne {a b : List Nd} (h : a ≠ b) : sameL a b = false := by
  cases hs : sameL a b with
  | false => rfl
  | true => exact absurd ((sameL_iff a b).1 hs) h
theorem ne_at {a b : List Nd} {k : Nat} {x y : Nd} (hx : a[k]? = some x) (hy : b[k]? = some y) (h : x ≠ y) : sameL a b = false := sameL_ne fun e => by
  subst e
  rw [hx] at hy
  exact h (Option.some.inj hy)

structure SmAt (w wr : World) (a b : List Nd) (i : Nat) : Prop where
  le : i ≤ a.length
  eq : a.take i = b.take i
  bel : Below w.heap.size w wr
def SmRel (w : World) (a b : List Nd) (x : Value) (wr : World) : Prop := ∃ i : Nat, x = .int .i64 i ∧ SmAt w wr a b i
structure SmIn (w wo wr : World) (u u' v v' : Value) (p q : List (ByteArray × ByteArray)) (j : Nat) : Prop where
  le : j ≤ p.length
  eq : p.take j = q.take j
  c0 : wr.cell? ⟨wo.heap.size, 2, none⟩ = some u
  c1 : wr.cell? ⟨wo.heap.size + 1, 2, none⟩ = some u'
  d0 : wr.cell? ⟨wo.heap.size, 4, none⟩ = some v
  d1 : wr.cell? ⟨wo.heap.size + 1, 4, none⟩ = some v'
  lt : wo.heap.size + 1 < wr.heap.size
  bel : Below w.heap.size w wr
def SmInR (w wo : World) (u u' v v' : Value) (p q : List (ByteArray × ByteArray)) (x : Value) (wr : World) : Prop := ∃ j : Nat, x = .int .i64 j ∧ SmIn w wo wr u u' v v' p q j

theorem take_same {α : Type} {a b : List α} {k : Nat} {x : α} (h : a.take k = b.take k) (hx : a[k]? = some x) (hy : b[k]? = some x) : a.take (k + 1) = b.take (k + 1) := by
  rw [List.take_add_one, List.take_add_one, h, hx, hy]

set_option maxHeartbeats 8000000 in
set_option maxRecDepth 100000 in
theorem sameR_any (a : List Nd) : ∀ (b : List Nd) (S S' : Nat → Prop) (v v' : Value) (w : World), Tree S w a v → Tree S' w b v' → (∀ k, S k → k < w.heap.size) → (∀ k, S' k → k < w.heap.size) → szL a ≤ 1000000 → szL b ≤ 1000000 →
    Calls Tryz.prog 10 #[v, v'] w fun e w' => e = .returned (.bool (sameL a b)) ∧ Below w.heap.size w w' := by
  induction a using nd_ind with
  | h a ih =>
  intro b S S' v v' w hT hT' hS hS' hsz hsz'
  have hlen := szL_len a
  have hlen' := szL_len b
  obtain ⟨A, c, rfl, hc⟩ := hT.shape
  obtain ⟨A', c', rfl, hc'⟩ := hT'.shape
  have HT := Lib.hid hT
  have HT' := Lib.hid hT'
  have HIH := Lib.hid ih
  clear hT hT' ih
  by_cases hab : a.length = b.length
  · have HAB := Lib.hid hab
    obtain ⟨n, hn⟩ : ∃ n, a.length = n := ⟨_, rfl⟩
    have hnb : b.length = n := by omega
    rw [hn] at hlen hc ⊢
    rw [hnb] at hlen' hc' ⊢
    have HN := Lib.hid hn
    have HNB := Lib.hid hnb
    clear hn hnb hab
    go_enter Tryz.func10, Tryz.ntmps10
    go_wp2_with fail
    go_loopw [5, 6, 7, 8, 9] (fun x _ _ _ _ wr => SmRel w a b x wr) (fun x _ _ _ _ _ => n - (intOf x).toNat)
    case atStart => exact ⟨0, rfl, ⟨by omega, by simp, Below.refl _ _⟩⟩
    case round =>
      obtain ⟨i, rfl, HR⟩ := hrel
      obtain ⟨hi, heq, hbr⟩ := HR
      have HEQ := Lib.hid heq
      rw [HN.out] at hi
      clear heq
      by_cases hlt : i < n
      · obtain ⟨bb, o, cc, hv, _, hSb, hcell⟩ := HT.out.open_ (by have := HN.out; omega)
        obtain ⟨bb', o', cc', hv', _, hSb', hcell'⟩ := HT'.out.open_ (by have := HNB.out; omega)
        injection hv with hA _ hcc
        injection hv' with hA' _ hcc'
        subst hA
        subst hcc
        subst hA'
        subst hcc'
        obtain ⟨x, hx⟩ : ∃ x, a[i]? = some x := ⟨_, List.getElem?_eq_getElem (by have := HN.out; omega)⟩
        obtain ⟨y, hy⟩ : ∃ y, b[i]? = some y := ⟨_, List.getElem?_eq_getElem (by have := HNB.out; omega)⟩
        obtain ⟨xa, xk, hxt⟩ := hcell i x hx
        obtain ⟨ya, yk, hyt⟩ := hcell' i y hy
        have hb := hS bb hSb
        have hb' := hS' bb' hSb'
        have hzx := szL_at hx
        have hzy := szL_at hy
        have hzk := szL_kids hx
        have hzk' := szL_kids hy
        rw [szN_eq] at hzx hzy
        have hal := szA_len x.attrs
        have hal' := szA_len y.attrs
        obtain ⟨A1, c1, rfl, _, _⟩ := id hxt.at_
        obtain ⟨A2, c2, rfl, _⟩ := hxt.kids.shape
        obtain ⟨A3, c3, rfl, _, _⟩ := id hyt.at_
        obtain ⟨A4, c4, rfl, _⟩ := hyt.kids.shape
        have q0 : wr.cell? ⟨bb, o + i * 5, none⟩ = some (.int .i64 x.kind) := (hbr.cell (p := ⟨bb, o + i * 5, none⟩) hb).trans hxt.c0
        have q1 : wr.cell? ⟨bb, o + i * 5 + 1, none⟩ = some (.string x.name) := (hbr.cell (p := ⟨bb, o + i * 5 + 1, none⟩) hb).trans hxt.c1
        have q2 : wr.cell? ⟨bb, o + i * 5 + 2, none⟩ = some (.slice A1 x.attrs.length c1) := (hbr.cell (p := ⟨bb, o + i * 5 + 2, none⟩) hb).trans hxt.c2
        have q3 : wr.cell? ⟨bb, o + i * 5 + 3, none⟩ = some (.string x.text) := (hbr.cell (p := ⟨bb, o + i * 5 + 3, none⟩) hb).trans hxt.c3
        have q4 : wr.cell? ⟨bb, o + i * 5 + 4, none⟩ = some (.slice A2 x.kids.length c2) := (hbr.cell (p := ⟨bb, o + i * 5 + 4, none⟩) hb).trans hxt.c4
        have r0 : wr.cell? ⟨bb', o' + i * 5, none⟩ = some (.int .i64 y.kind) := (hbr.cell (p := ⟨bb', o' + i * 5, none⟩) hb').trans hyt.c0
        have r1 : wr.cell? ⟨bb', o' + i * 5 + 1, none⟩ = some (.string y.name) := (hbr.cell (p := ⟨bb', o' + i * 5 + 1, none⟩) hb').trans hyt.c1
        have r2 : wr.cell? ⟨bb', o' + i * 5 + 2, none⟩ = some (.slice A3 y.attrs.length c3) := (hbr.cell (p := ⟨bb', o' + i * 5 + 2, none⟩) hb').trans hyt.c2
        have r3 : wr.cell? ⟨bb', o' + i * 5 + 3, none⟩ = some (.string y.text) := (hbr.cell (p := ⟨bb', o' + i * 5 + 3, none⟩) hb').trans hyt.c3
        have r4 : wr.cell? ⟨bb', o' + i * 5 + 4, none⟩ = some (.slice A4 y.kids.length c4) := (hbr.cell (p := ⟨bb', o' + i * 5 + 4, none⟩) hb').trans hyt.c4
        have i1 : (i : Int) < (n : Int) := by omega
        have i2 : (0 : Int) ≤ (i : Int) := by omega
        have HX := Lib.hid hx
        have HY := Lib.hid hy
        have HXA := Lib.hid hxt.at_
        have HYA := Lib.hid hyt.at_
        have HKD := Lib.hid (fun (W : World) (hW : Below w.heap.size w W) => HIH.out i x hx y.kids S S' (.slice A2 x.kids.length c2) (.slice A4 y.kids.length c4) W (hxt.kids.keep (Kept.belowB hW hS)) (hyt.kids.keep (Kept.belowB hW hS')) (fun k h => Nat.lt_of_lt_of_le (hS k h) hW.size) (fun k h => Nat.lt_of_lt_of_le (hS' k h) hW.size) (by omega) (by omega))
        have hs1 := str_eq x.name y.name
        have hs2 := str_eq x.text y.text
        have HNE := Lib.hid (fun (h : x ≠ y) => ne_at hx hy h)
        have HXY := Lib.hid (@nd_ext' x y)
        have hBB : Below w.heap.size w ((wr.alloc (.cells #[.int .i64 x.kind, .string x.name, .slice A1 x.attrs.length c1, .string x.text, .slice A2 x.kids.length c2] 35)).alloc (.cells #[.int .i64 y.kind, .string y.name, .slice A3 y.attrs.length c3, .string y.text, .slice A4 y.kids.length c4] 35)) :=
          (hbr.alloc hbr.size _).alloc (by have := hbr.size; simp; omega) _
        have mm : bb' < wr.heap.size := Nat.lt_of_lt_of_le hb' hbr.size
        have mm2 : bb' ≠ wr.heap.size := by omega
        clear hcell hcell' hx hy hxt hyt
        by_cases e0 : x.kind = y.kind
        · have B0 : (x.kind != y.kind) = false := by simp [e0]
          by_cases e1 : x.name = y.name
          · rw [decide_eq_true e1] at hs1
            by_cases e2 : x.text = y.text
            · rw [decide_eq_true e2] at hs2
              by_cases e3 : x.attrs.length = y.attrs.length
              · have B3 : ((x.attrs.length : Int) != (y.attrs.length : Int)) = false := by simp [e3]
                have HE := Lib.hid (And.intro e0 (And.intro e1 (And.intro e2 e3)))
                clear e0 e1 e2 e3
                go_wp2_with fail
                obtain ⟨wo, rfl⟩ : ∃ wo : World, wo = wr := ⟨_, rfl⟩
                go_loopw [8] (fun z wx => SmInR w wo (.slice A1 x.attrs.length c1) (.slice A3 y.attrs.length c3) (.slice A2 x.kids.length c2) (.slice A4 y.kids.length c4) x.attrs y.attrs z wx) (fun z _ => x.attrs.length - (intOf z).toNat)
                case atStart => exact ⟨0, rfl, ⟨by omega, by simp, by simp, by simp, by simp, by simp, by simp, hBB⟩⟩
                case round =>
                  obtain ⟨j, rfl, HI⟩ := hrel
                  obtain ⟨hj, hje, g0, g1, g2, g3, hgl, hbx⟩ := HI
                  have HJE := Lib.hid hje
                  clear hje q0 q1 q2 q3 q4 r0 r1 r2 r3 r4 hs1 hs2 hBB mm mm2
                  by_cases hlj : j < x.attrs.length
                  · have hly : j < y.attrs.length := by have := HE.out.2.2.2; omega
                    obtain ⟨d, m, cm, hv3, _, hSd, hatt⟩ := HXA.out.at_ (by omega)
                    obtain ⟨d', m', cm', hv4, _, hSd', hatt'⟩ := HYA.out.at_ (by omega)
                    injection hv3 with hA3 _ hcc3
                    injection hv4 with hA4 _ hcc4
                    subst hA3
                    subst hcc3
                    subst hA4
                    subst hcc4
                    obtain ⟨p, hp⟩ : ∃ p, x.attrs[j]? = some p := ⟨_, List.getElem?_eq_getElem hlj⟩
                    obtain ⟨q, hq⟩ : ∃ q, y.attrs[j]? = some q := ⟨_, List.getElem?_eq_getElem hly⟩
                    have hd := hS d hSd
                    have hd' := hS' d' hSd'
                    have p0 : wr.cell? ⟨d, m + j * 2, none⟩ = some (.string p.1) := (hbx.cell (p := ⟨d, m + j * 2, none⟩) hd).trans (hatt j p hp).1
                    have p1 : wr.cell? ⟨d, m + j * 2 + 1, none⟩ = some (.string p.2) := (hbx.cell (p := ⟨d, m + j * 2 + 1, none⟩) hd).trans (hatt j p hp).2
                    have u0 : wr.cell? ⟨d', m' + j * 2, none⟩ = some (.string q.1) := (hbx.cell (p := ⟨d', m' + j * 2, none⟩) hd').trans (hatt' j q hq).1
                    have u1 : wr.cell? ⟨d', m' + j * 2 + 1, none⟩ = some (.string q.2) := (hbx.cell (p := ⟨d', m' + j * 2 + 1, none⟩) hd').trans (hatt' j q hq).2
                    have i3 : (j : Int) < (x.attrs.length : Int) := by omega
                    have i4 : (0 : Int) ≤ (j : Int) := by omega
                    have i5 : (j : Int) < (y.attrs.length : Int) := by omega
                    have hk1 := str_eq p.1 q.1
                    have hk2 := str_eq p.2 q.2
                    have HP := Lib.hid hp
                    have HQ := Lib.hid hq
                    clear hatt hatt' hp hq hly
                    by_cases f1 : p.1 = q.1
                    · rw [decide_eq_true f1] at hk1
                      by_cases f2 : p.2 = q.2
                      · rw [decide_eq_true f2] at hk2
                        have HPQ := Lib.hid (show p = q from Prod.ext f1 f2)
                        clear f1 f2
                        go_wp2_with fail
                        go_quiet (fail)
                        go_wp2_with fail
                        go_roundw
                        case rel => exact ⟨j + 1, by go_num, by omega, take_same HJE.out HP.out (by rw [HPQ.out]; exact HQ.out), g0, g1, g2, g3, hgl, dN_below hbx _⟩
                        case measure => simp [intOf]; omega
                      · rw [decide_eq_false f2] at hk2
                        have HF := Lib.hid (HNE.out fun e => f2 (by have h1 := HP.out; have h2 := HQ.out; rw [e, h2] at h1; injection h1 with h1; rw [h1]))
                        clear f1 f2
                        go_wp2_with fail
                        go_quiet (fail)
                        go_wp2_with fail
                        go_ret
                        rw [HF.out]
                        exact ⟨rfl, dN_below hbx _⟩
                    · rw [decide_eq_false f1] at hk1
                      have HF := Lib.hid (HNE.out fun e => f1 (by have h1 := HP.out; have h2 := HQ.out; rw [e, h2] at h1; injection h1 with h1; rw [h1]))
                      clear f1
                      go_wp2_with fail
                      go_quiet (fail)
                      go_wp2_with fail
                      go_ret
                      rw [HF.out]
                      exact ⟨rfl, dN_below hbx _⟩
                  · have hjl : j = x.attrs.length := by omega
                    have HAT := Lib.hid (show x.attrs = y.attrs by
                      have h1 := HJE.out
                      rwa [List.take_of_length_le (by omega), List.take_of_length_le (by have := HE.out.2.2.2; omega)] at h1)
                    have HK := Lib.hid (HKD.out wr hbx)
                    obtain ⟨r, hr⟩ : ∃ r, sameL x.kids y.kids = r := ⟨_, rfl⟩
                    rw [hr] at HK
                    have HR := Lib.hid hr
                    clear hr
                    go_wp2_with fail
                    refine HK.out.mono ?_
                    rintro e w3 ⟨rfl, hb3⟩
                    have hB3 := below_after hbx hb3
                    cases r with
                    | true =>
                      have HEQX := Lib.hid (HXY.out HE.out.1 HE.out.2.1 HAT.out HE.out.2.2.1 ((sameL_iff _ _).1 HR.out))
                      go_wp2_with fail
                      go_roundw
                      case rel => exact ⟨i + 1, by go_num, by have := HN.out; omega, take_same HEQ.out HX.out (by rw [HEQX.out]; exact HY.out), hB3⟩
                      case measure => simp [intOf]; omega
                    | false =>
                      have HF := Lib.hid (HNE.out fun e => by
                        have h1 := HR.out
                        rw [e, (sameL_iff y.kids y.kids).2 rfl] at h1
                        cases h1)
                      go_wp2_with fail
                      go_ret
                      rw [HF.out]
                      exact ⟨rfl, hB3⟩
              · have B3 : ((x.attrs.length : Int) != (y.attrs.length : Int)) = true := by simp; omega
                have HF := Lib.hid (HNE.out fun e => e3 (by rw [e]))
                clear e0 e1 e2 e3
                go_wp2_with fail
                go_ret
                rw [HF.out]
                exact ⟨rfl, hBB⟩
            · rw [decide_eq_false e2] at hs2
              have HF := Lib.hid (HNE.out fun e => e2 (by rw [e]))
              clear e0 e1 e2
              go_wp2_with fail
              go_ret
              rw [HF.out]
              exact ⟨rfl, hBB⟩
          · rw [decide_eq_false e1] at hs1
            have HF := Lib.hid (HNE.out fun e => e1 (by rw [e]))
            clear e0 e1
            go_wp2_with fail
            go_ret
            rw [HF.out]
            exact ⟨rfl, hBB⟩
        · have B0 : (x.kind != y.kind) = true := by simp [e0]
          have HF := Lib.hid (HNE.out fun e => e0 (by rw [e]))
          clear e0
          go_wp2_with fail
          go_ret
          rw [HF.out]
          exact ⟨rfl, hBB⟩
      · have hke : i = n := by omega
        have HF := Lib.hid (show sameL a b = true by
          rw [sameL_iff]
          have h1 := HEQ.out
          rwa [List.take_of_length_le (by have := HN.out; omega), List.take_of_length_le (by have := HNB.out; omega)] at h1)
        go_wp2_with fail
        go_ret
        rw [HF.out]
        exact ⟨rfl, hbr⟩
  · have B0 : ((a.length : Int) != (b.length : Int)) = true := by simp; omega
    have HF := Lib.hid (show sameL a b = false from sameL_ne fun e => hab (by rw [e]))
    clear hab
    go_enter Tryz.func10, Tryz.ntmps10
    go_wp2_with fail
    go_ret
    rw [HF.out]
    exact ⟨rfl, Below.refl _ _⟩

end Go.Proofs.YthmnnalamaponaaGreat
