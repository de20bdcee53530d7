/- Parts of the proof, in build order: Lw5S Same5 Lw5B. -/
import Derived.Test.YtialfafjoemppaaK06
import Derived.Test.YtialfafjoemppaaK13
import Derived.Deep.RegionHeld3
import Derived.Test.YtialfafjoemppaaK03
import Derived.BigQuiet

/- Part Lw5S. -/
namespace Go.Proofs.Ytialfafjoemppaa
open Go.RowKit
set_option linter.unusedVariables false

theorem valA_mem {l : List (ByteArray × ByteArray)} (h : l.Pairwise (fun a b => a.1 ≠ b.1)) {k : Nat} {a : ByteArray × ByteArray} (hk : l[k]? = some a) : valA l a.1 = some a.2 := by
  refine valA_at (k := k) (fun b hb => ?_) hk rfl
  obtain ⟨j, hj, he⟩ := List.mem_iff_getElem.1 hb
  rw [List.getElem_take] at he
  have hjk : j < k := by rw [List.length_take] at hj; omega
  have hjl : j < l.length := by rw [List.length_take] at hj; omega
  have hkl := (List.getElem?_eq_some_iff.1 hk).1
  have hka := (List.getElem?_eq_some_iff.1 hk).2
  have := (List.pairwise_iff_getElem.1 h) j k hjl hkl hjk
  rw [← he, ← hka]
  exact this

/-- The four kinds of tokens. -/
theorem tk_cases {t : Tk} (h : tkOK t) : (t.kind = 1 ∧ namedB t.name.data.toList = true ∧ attrsOK t.attrs ∧ t.text = ⟨#[]⟩) ∨ (t.kind = 2 ∧ namedB t.name.data.toList = true ∧ t.attrs = [] ∧ t.text = ⟨#[]⟩) ∨
    (t.kind = 3 ∧ t.name = ⟨#[]⟩ ∧ t.attrs = [] ∧ t.text.data.toList ≠ []) ∨ (t.kind = 4 ∧ t.name = ⟨#[]⟩ ∧ t.attrs = []) := by
  rcases h with ⟨h1, h2, h3, h4⟩ | ⟨h1, h2, h3, h4⟩ | ⟨h1, h2, h3, h4, _⟩ | ⟨h1, h2, h3, _⟩
  · exact .inl ⟨h1, h2, h3, text_nil h4⟩
  · exact .inr (.inl ⟨h1, h2, h3, text_nil h4⟩)
  · exact .inr (.inr (.inl ⟨h1, text_nil h2, h3, h4⟩))
  · exact .inr (.inr (.inr ⟨h1, text_nil h2, h3⟩))
theorem seq_mem : ∀ {l : List Tk} {t : Tk}, seqOK l → t ∈ l → tkOK t
  | x :: l, t, h, ht => by
    rcases List.mem_cons.1 ht with rfl | ht
    · exact h.1
    · exact seq_mem h.2.2 ht

def ShUp (w : World) (n : Nat) (x : Value) (wr : World) : Prop := ∃ k : Nat, x = .int .i64 k ∧ k ≤ n ∧ Below w.heap.size w wr
structure ShAt (w1 wr : World) (bx : Nat) (u : Value) (n k : Nat) : Prop where
  le : k ≤ n
  cell : wr.cell? ⟨bx, 2, none⟩ = some u
  lt : bx < wr.heap.size
  bel : Below w1.heap.size w1 wr
def ShIn (w1 : World) (bx : Nat) (u : Value) (n : Nat) (x : Value) (wr : World) : Prop := ∃ k : Nat, x = .int .i64 k ∧ ShAt w1 wr bx u n k

theorem box_below {W W' : World} {k : Nat} {cs : Array Value} {t : TypeId} (h : W.heap[k]? = some (.cells cs t (0, 0))) (hb : Below W.heap.size W W') : W'.heap[k]? = some (.cells cs t (0, 0)) :=
  (hb.block k (Array.getElem?_eq_some_iff.1 h).1).trans h

set_option maxHeartbeats 8000000 in
set_option maxRecDepth 100000 in
theorem tokenShape_end (HTS : ToksSaid) (A : Option Addr) (n c : Nat) (l : List UInt8) (w : World) (hs : Sits w w.heap.size A (Lib.byteCells l)) (hn : n = l.length) (hc : n ≤ c) (hm : n ≤ maxLen) (HGB : Glob w) :
    Calls Try.prog 5 #[.slice A n c] w fun e w' => e = .returned (.bool true) ∧ Below w.heap.size w w' := by
  have HF := Lib.hid (few5_any A n c l w hs hn hc hm)
  clear hs hn hc hm
  go_enter Try.func5, Try.ntmps5
  go_wp2_with fail
  refine HF.out.mono ?_
  rintro e w0 ⟨s, rfl, hsr, hsz, hb0⟩
  have H0 := Lib.hid (HTS s w0 (HGB.below hb0) hsr (by omega))
  go_wp2_with fail
  refine H0.out.mono ?_
  rintro e w1 ⟨v, rfl, hT0, hb1⟩
  have hT := hT0.mono (S' := (· < w1.heap.size)) fun b hb => hb.2
  have hsl : s.data.toList.length = s.size := by simp
  have hz := tok_sz _ s.data.toList (Nat.le_refl _)
  have hln := szKs_len (tokB s.data.toList)
  have hseq := tok_seq _ _ (Nat.le_refl _) hsr
  obtain ⟨L, hL⟩ : ∃ L, tokB s.data.toList = L := ⟨_, rfl⟩
  rw [hL] at hT hz hln hseq
  have hzz : szKs L ≤ 30000 := by omega
  have hll : L.length ≤ 3000 := by omega
  have hB1 := below_after hb0 hb1
  have HSQ := Lib.hid hseq
  obtain ⟨Av, cv, rfl, hcv⟩ := hT.shape
  have HT := Lib.hid hT
  clear hT0 hT hL hz hln hsl hsz hsr hb0 hb1 hseq
  go_wp2_with fail
  go_loopw [4, 5, 6, 7, 8, 9, 10, 11] (fun x _ _ _ _ _ _ _ wr => ShUp w1 L.length x wr) (fun x _ _ _ _ _ _ _ _ => L.length - (intOf x).toNat)
  case atStart => exact ⟨0, rfl, by omega, Below.refl _ _⟩
  case round =>
    obtain ⟨i, rfl, hi, hbr⟩ := hrel
    by_cases hlt : i < L.length
    · obtain ⟨b, o, c', hv, _, hSb, hcell⟩ := HT.out.open_ (by omega)
      injection hv with hA _ hcc
      subst hA
      subst hcc
      obtain ⟨t, ht⟩ : ∃ t, L[i]? = some t := ⟨_, List.getElem?_eq_getElem hlt⟩
      obtain ⟨va, hta⟩ := hcell i t ht
      have htz := szKs_mem (List.mem_of_getElem? ht)
      have htc := tk_cases (seq_mem HSQ.out (List.mem_of_getElem? ht))
      obtain ⟨tk, tn, ta, tt⟩ := t
      have hnz : tn.size ≤ 100000 := by unfold szK at htz; simp only at htz; omega
      have haz : szA ta ≤ 30000 := by unfold szK at htz; simp only at htz; omega
      have hal := szA_len ta
      obtain ⟨A1, c1, rfl, _, _⟩ := id hta.at_
      simp only at htc
      have q0 : wr.cell? ⟨b, o + i * 4, none⟩ = some (.int .i64 tk) := (hbr.cell (p := ⟨b, o + i * 4, none⟩) hSb).trans hta.c0
      have q1 : wr.cell? ⟨b, o + i * 4 + 1, none⟩ = some (.string tn) := (hbr.cell (p := ⟨b, o + i * 4 + 1, none⟩) hSb).trans hta.c1
      have q2 : wr.cell? ⟨b, o + i * 4 + 2, none⟩ = some (.slice A1 ta.length c1) := (hbr.cell (p := ⟨b, o + i * 4 + 2, none⟩) hSb).trans hta.c2
      have q3 : wr.cell? ⟨b, o + i * 4 + 3, none⟩ = some (.string tt) := (hbr.cell (p := ⟨b, o + i * 4 + 3, none⟩) hSb).trans hta.c3
      have i1 : (i : Int) < (L.length : Int) := by omega
      have i2 : (0 : Int) ≤ (i : Int) := by omega
      have HA := Lib.hid hta.at_
      have HNM := Lib.hid (fun W => namedR_any tn W hnz)
      have HAO := Lib.hid (show attrsOK ta from by
        rcases htc with h | h | h | h
        · exact h.2.2.1
        all_goals rw [show ta = [] from by first | exact h.2.2.1 | exact h.2.2]; exact ⟨by simp, List.Pairwise.nil⟩)
      have hnb := below_new wr (.cells #[.int .i64 tk, .string tn, .slice A1 ta.length c1, .string tt] 31)
      have hbx := box_here wr #[.int .i64 tk, .string tn, .slice A1 ta.length c1, .string tt] 31
      have hBb : Below w1.heap.size w1 (wr.alloc (.cells #[.int .i64 tk, .string tn, .slice A1 ta.length c1, .string tt] 31)) := below_after hbr hnb
      have HBX := Lib.hid (And.intro hbx hBb)
      obtain ⟨qn, hqn⟩ : ∃ q, namedB tn.data.toList = q := ⟨_, rfl⟩
      rw [hqn] at HNM htc
      have HVL := Lib.hid (fun (x : ByteArray × ByteArray) (k : Nat) (hk : ta[k]? = some x) (W : World) (hW : Below w1.heap.size w1 W) =>
        (show Calls Try.prog 17 #[.agg #[.int .i64 0, .string ⟨#[]⟩, .slice A1 ta.length c1, .string ⟨#[]⟩, .slice none 0 0], .string x.1] W fun e w' => e = .returned (.tuple #[.string x.2, .bool true]) ∧ Below W.heap.size W w' from by
          have := valueR_any (· < w1.heap.size) 0 ⟨#[]⟩ ⟨#[]⟩ ta (.slice A1 ta.length c1) (.slice none 0 0) x.1 W (HA.out.keep (Kept.belowB hW fun b hb => hb)) (fun b hb => Nat.lt_of_lt_of_le hb hW.size) (by omega)
          rw [valA_mem HAO.out.2 hk] at this
          exact this))
      clear hcell ht hta htz hbx hBb hnb hqn
      go_wp2_with fail
      refine (HNM.out _).mono ?_
      rintro e w2 ⟨rfl, rfl⟩
      rcases htc with ⟨rfl, rfl, _, rfl⟩ | ⟨rfl, rfl, ha0, rfl⟩ | ⟨rfl, rfl, ha0, htt⟩ | ⟨rfl, rfl, ha0⟩
      case' inr.inl => have ha1 : ta.length ≤ 0 := by rw [ha0]; simp
      case' inr.inr.inl =>
        have ha1 : ta.length ≤ 0 := by rw [ha0]; simp
        have hb3 : tt.toList.isEmpty = false := by rw [Lib.toList_data]; cases hx : tt.data.toList with | nil => exact absurd hx htt | cons a b => rfl
      case' inr.inr.inr => have ha1 : ta.length ≤ 0 := by rw [ha0]; simp
      all_goals (try clear ha0)
      all_goals (try clear htt)
      all_goals go_wp2_with fail
      all_goals
        have hB2 := HBX.out.2
        have hcl2 := cell_at HBX.out.1 2
        have hbxl : wr.heap.size < (wr.alloc (.cells #[] 31)).heap.size := by simp
        obtain ⟨wo, rfl⟩ : ∃ wo : World, wo = wr := ⟨_, rfl⟩
        go_loopw [8, 9, 10, 11] (fun x _ _ _ wx => ShIn w1 wo.heap.size (.slice A1 ta.length c1) ta.length x wx) (fun x _ _ _ _ => ta.length - (intOf x).toNat)
        case atStart => exact ⟨0, rfl, by omega, hcl2, by simp, hB2⟩
        case round =>
          obtain ⟨j, rfl, HR⟩ := hrel
          obtain ⟨hj, hg2, hgl, hbx⟩ := HR
          clear q0 q1 q2 q3
          by_cases hlj : j < ta.length
          · (try (exfalso; omega))
            all_goals
              obtain ⟨d, m, cm, hv3, _, hSd, hatt⟩ := HA.out.at_ (by omega)
              injection hv3 with hA3 _ hcc3
              subst hA3
              subst hcc3
              obtain ⟨x, hx⟩ : ∃ x, ta[j]? = some x := ⟨_, List.getElem?_eq_getElem hlj⟩
              have hxa := HAO.out.1 x (List.mem_of_getElem? hx)
              have hxz := szA_at hx
              have p0 : wr.cell? ⟨d, m + j * 2, none⟩ = some (.string x.1) := (hbx.cell (p := ⟨d, m + j * 2, none⟩) hSd).trans (hatt j x hx).1
              have i3 : (j : Int) < (ta.length : Int) := by omega
              have i4 : (0 : Int) ≤ (j : Int) := by omega
              have HAT := Lib.hid (attrR_any x.1 wr (by omega))
              rw [hxa.1] at HAT
              have HP1 := Lib.hid (hatt j x hx).2
              have HP0 := Lib.hid (hatt j x hx).1
              have HVV := Lib.hid (HVL.out x j hx)
              clear hatt hx hxa
              go_wp2_with fail
              refine HAT.out.mono ?_
              rintro e w3 ⟨rfl, hb3⟩
              have hB3 := below_after hbx hb3
              have g2 : w3.cell? ⟨wo.heap.size, 2, none⟩ = some (.slice (some ⟨d, m, none⟩) ta.length c1) := (hb3.cell (p := ⟨wo.heap.size, 2, none⟩) hgl).trans hg2
              have r0 : w3.cell? ⟨d, m + j * 2, none⟩ = some (.string x.1) := (hB3.cell (p := ⟨d, m + j * 2, none⟩) hSd).trans HP0.out
              have hgl3 : wo.heap.size < w3.heap.size := Nat.lt_of_lt_of_le hgl hb3.size
              have HV3 := Lib.hid (HVV.out w3.drew hB3.drew)
              have SK := Lib.hid (fun (W : World) (h : Below w3.drew.heap.size w3.drew W) => (⟨(h.cell (p := ⟨wo.heap.size, 2, none⟩) hgl3).trans g2, (h.cell (p := ⟨d, m + j * 2, none⟩) (Nat.lt_of_lt_of_le hSd hB3.size)).trans r0⟩ :
                W.cell? ⟨wo.heap.size, 2, none⟩ = some (.slice (some ⟨d, m, none⟩) ta.length c1) ∧ W.cell? ⟨d, m + j * 2, none⟩ = some (.string x.1)))
              clear hb3 hbx hg2 p0
              go_wp2_with fail
              go_region_held3 (fun W => W.cell? ⟨wo.heap.size, 2, none⟩ = some (.slice (some ⟨d, m, none⟩) ta.length c1) ∧ W.cell? ⟨d, m + j * 2, none⟩ = some (.string x.1))
                (first
                  | exact SK.out _ (Below.refl _ _)
                  | exact SK.out _ hb4)
                (first
                  | (go_at_call 17; refine Calls.mono HV3.out ?_; rintro e w4 ⟨rfl, hb4⟩))
              have hB4 := below_after hB3.drew hb4
              have g3 := (SK.out _ hb4).1
              have r1 : w4.cell? ⟨d, m + j * 2 + 1, none⟩ = some (.string x.2) := (hB4.cell (p := ⟨d, m + j * 2 + 1, none⟩) hSd).trans HP1.out
              have hgl4 : wo.heap.size < w4.heap.size := Nat.lt_of_lt_of_le hgl3 hb4.size
              go_wp2_with fail
              go_roundw
              case rel => exact ⟨j + 1, by go_num, by omega, g3, hgl4, hB4⟩
              case measure => simp [intOf]; omega
          · have hje : j = ta.length := by omega
            go_wp2_with fail
            go_roundw
            case rel => exact ⟨i + 1, by go_num, by omega, hbx⟩
            case measure => simp [intOf]; omega
    · have hkk : i = L.length := by omega
      subst hkk
      have HL := Lib.hid (lives5_any HTS wr (HGB.below (below_after hB1 hbr)))
      go_wp2_with fail
      refine HL.out.mono ?_
      rintro e w4 ⟨rfl, hb4⟩
      go_wp2_with fail
      go_ret
      exact ⟨rfl, below_after (below_after hB1 hbr) hb4⟩

end Go.Proofs.Ytialfafjoemppaa

/- Part Same5. -/
namespace Go.Proofs.Ytialfafjoemppaa
open Go.RowKit
set_option linter.unusedVariables false

def CtUp (w : World) (n : Nat) (x : Value) (wr : World) : Prop := ∃ k : Nat, x = .int .i64 k ∧ k ≤ n ∧ Below w.heap.size w wr

set_option maxHeartbeats 4000000 in
set_option maxRecDepth 100000 in
theorem same5_any (S S' : Nat → Prop) (l : List Tk) (v v' : Value) (w : World) (hT : TokAt S w l v) (hS : ∀ b, S b → b < w.heap.size) (hT' : TokAt S' w l v') (hS' : ∀ b, S' b → b < w.heap.size) (hl : l.length ≤ 1000000) (hz : ∀ t ∈ l, t.attrs.length ≤ 1000000) :
    Calls Try.prog 11 #[v, v'] w fun e w' => e = .returned (.bool true) ∧ Below w.heap.size w w' := by
  obtain ⟨A, c, rfl, hc⟩ := hT.shape
  obtain ⟨A', c', rfl, hc'⟩ := hT'.shape
  have HT := Lib.hid hT
  have HT' := Lib.hid hT'
  have HZ := Lib.hid hz
  clear hT hT' hz
  go_enter Try.func11, Try.ntmps11
  go_wp2_with fail
  go_loopw [5, 6] (fun x y wr => CtUp w l.length x wr) (fun x _ _ => l.length - (intOf x).toNat)
  case atStart => exact ⟨0, rfl, by omega, Below.refl _ _⟩
  case round =>
    obtain ⟨k, rfl, hk, hbr⟩ := hrel
    by_cases hlt : k < l.length
    · obtain ⟨b, o, cc, hv, _, hSb, hcell⟩ := HT.out.open_ (by omega)
      obtain ⟨b', o', cc', hv', _, hSb', hcell'⟩ := HT'.out.open_ (by omega)
      injection hv with hA _ hcc
      injection hv' with hA' _ hcc'
      subst hA
      subst hcc
      subst hA'
      subst hcc'
      obtain ⟨t, ht⟩ : ∃ t, l[k]? = some t := ⟨_, List.getElem?_eq_getElem hlt⟩
      obtain ⟨va, hta⟩ := hcell k t ht
      obtain ⟨va', hta'⟩ := hcell' k t ht
      have hb := hS b hSb
      have hb' := hS' b' hSb'
      obtain ⟨A1, c1, rfl, _, _⟩ := id hta.at_
      obtain ⟨A2, c2, rfl, _, _⟩ := id hta'.at_
      have q0 : wr.cell? ⟨b, o + k * 4, none⟩ = some (.int .i64 t.kind) := (hbr.cell (p := ⟨b, o + k * 4, none⟩) hb).trans hta.c0
      have q1 : wr.cell? ⟨b, o + k * 4 + 1, none⟩ = some (.string t.name) := (hbr.cell (p := ⟨b, o + k * 4 + 1, none⟩) hb).trans hta.c1
      have q2 : wr.cell? ⟨b, o + k * 4 + 2, none⟩ = some (.slice A1 t.attrs.length c1) := (hbr.cell (p := ⟨b, o + k * 4 + 2, none⟩) hb).trans hta.c2
      have q3 : wr.cell? ⟨b, o + k * 4 + 3, none⟩ = some (.string t.text) := (hbr.cell (p := ⟨b, o + k * 4 + 3, none⟩) hb).trans hta.c3
      have r0 : wr.cell? ⟨b', o' + k * 4, none⟩ = some (.int .i64 t.kind) := (hbr.cell (p := ⟨b', o' + k * 4, none⟩) hb').trans hta'.c0
      have r1 : wr.cell? ⟨b', o' + k * 4 + 1, none⟩ = some (.string t.name) := (hbr.cell (p := ⟨b', o' + k * 4 + 1, none⟩) hb').trans hta'.c1
      have r2 : wr.cell? ⟨b', o' + k * 4 + 2, none⟩ = some (.slice A2 t.attrs.length c2) := (hbr.cell (p := ⟨b', o' + k * 4 + 2, none⟩) hb').trans hta'.c2
      have r3 : wr.cell? ⟨b', o' + k * 4 + 3, none⟩ = some (.string t.text) := (hbr.cell (p := ⟨b', o' + k * 4 + 3, none⟩) hb').trans hta'.c3
      have i1 : (k : Int) < (l.length : Int) := by omega
      have i2 : (0 : Int) ≤ (k : Int) := by omega
      have hal := HZ.out t (List.mem_of_getElem? ht)
      have HA := Lib.hid hta.at_
      have HA' := Lib.hid hta'.at_
      have HSS := Lib.hid hS
      have HSS' := Lib.hid hS'
      clear hcell hcell' ht hta hta'
      go_wp2_with fail
      go_quiet (fail)
      go_wp2_with fail
      obtain ⟨wo, rfl⟩ : ∃ wo : World, wo = wr := ⟨_, rfl⟩
      go_loopw [6] (fun x wx => CtUp w t.attrs.length x wx) (fun x _ => t.attrs.length - (intOf x).toNat)
      case atStart => exact ⟨0, rfl, by omega, dN_below hbr _⟩
      case round =>
        obtain ⟨j, rfl, hj, hbx⟩ := hrel
        have s2 : wr.cell? ⟨b, o + k * 4 + 2, none⟩ = some (.slice A1 t.attrs.length c1) := ((hbx.cell (p := ⟨b, o + k * 4 + 2, none⟩) hb).trans (hbr.cell (p := ⟨b, o + k * 4 + 2, none⟩) hb).symm).trans q2
        have t2 : wr.cell? ⟨b', o' + k * 4 + 2, none⟩ = some (.slice A2 t.attrs.length c2) := ((hbx.cell (p := ⟨b', o' + k * 4 + 2, none⟩) hb').trans (hbr.cell (p := ⟨b', o' + k * 4 + 2, none⟩) hb').symm).trans r2
        clear q0 q1 q2 q3 r0 r1 r2 r3
        by_cases hlj : j < t.attrs.length
        · obtain ⟨d, m, cm, hv3, _, hSd, hatt⟩ := HA.out.at_ (by omega)
          obtain ⟨d', m', cm', hv4, _, hSd', hatt'⟩ := HA'.out.at_ (by omega)
          injection hv3 with hA3 _ hcc3
          injection hv4 with hA4 _ hcc4
          subst hA3
          subst hcc3
          subst hA4
          subst hcc4
          obtain ⟨x, hx⟩ : ∃ x, t.attrs[j]? = some x := ⟨_, List.getElem?_eq_getElem hlj⟩
          have hd := HSS.out d hSd
          have hd' := HSS'.out d' hSd'
          have p0 : wr.cell? ⟨d, m + j * 2, none⟩ = some (.string x.1) := (hbx.cell (p := ⟨d, m + j * 2, none⟩) hd).trans (hatt j x hx).1
          have p1 : wr.cell? ⟨d, m + j * 2 + 1, none⟩ = some (.string x.2) := (hbx.cell (p := ⟨d, m + j * 2 + 1, none⟩) hd).trans (hatt j x hx).2
          have u0 : wr.cell? ⟨d', m' + j * 2, none⟩ = some (.string x.1) := (hbx.cell (p := ⟨d', m' + j * 2, none⟩) hd').trans (hatt' j x hx).1
          have u1 : wr.cell? ⟨d', m' + j * 2 + 1, none⟩ = some (.string x.2) := (hbx.cell (p := ⟨d', m' + j * 2 + 1, none⟩) hd').trans (hatt' j x hx).2
          have i3 : (j : Int) < (t.attrs.length : Int) := by omega
          have i4 : (0 : Int) ≤ (j : Int) := by omega
          clear hatt hatt' hx
          go_wp2_with fail
          go_quiet (fail)
          go_wp2_with fail
          go_roundw
          case rel => exact ⟨j + 1, by go_num, by omega, dN_below hbx _⟩
          case measure => simp [intOf]; omega
        · have hje : j = t.attrs.length := by omega
          go_wp2_with fail
          go_roundw
          case rel => exact ⟨k + 1, by go_num, by omega, hbx⟩
          case measure => simp [intOf]; omega
    · have hkk : k = l.length := by omega
      subst hkk
      go_wp2_with fail
      go_ret
      exact ⟨rfl, hbr⟩

end Go.Proofs.Ytialfafjoemppaa

/- Part Lw5B. -/
namespace Go.Proofs.Ytialfafjoemppaa
open Go.RowKit
set_option linter.unusedVariables false

structure BlAt (w wr : World) (s : List UInt8) (v : Value) (k : Nat) : Prop where
  le : k ≤ s.length
  own : wr.ownsRow w.heap.size 5 1 v ((s.take k).filter unq).length (Lib.byteCells ((s.take k).filter unq))
  bel : Below w.heap.size w wr
def BlRel (w : World) (s : List UInt8) (v i : Value) (wr : World) : Prop := ∃ k : Nat, i = .int .i64 k ∧ BlAt w wr s v k

theorem cat_list' (a b : ByteArray) : (a ++ b).data.toList = a.data.toList ++ b.data.toList := by simp
theorem filt_take {l : List UInt8} {k : Nat} {c : UInt8} (h : l[k]? = some c) : (l.take (k + 1)).filter unq = (l.take k).filter unq ++ (if unq c = true then [c] else []) := by
  rw [take_snoc' h, List.filter_append, List.filter_cons]
  cases unq c <;> simp

set_option maxHeartbeats 1000000 in
set_option maxRecDepth 100000 in
theorem tokenBlanks_end (HTS : ToksSaid) (A : Option Addr) (n c : Nat) (l : List UInt8) (w : World) (hs : Sits w w.heap.size A (Lib.byteCells l)) (hn : n = l.length) (hc : n ≤ c) (hm : n ≤ maxLen) (HGB : Glob w) :
    Calls Try.prog 6 #[.slice A n c] w fun e w' => e = .returned (.bool true) ∧ Below w.heap.size w w' := by
  unfold maxLen at hm
  obtain ⟨i0, hi, hz0, hz1, hz2⟩ := info_parts info_byte
  have ht : Lib.byteCells (l.take 30) = (Lib.byteCells l).take 30 := by unfold Lib.byteCells; rw [List.map_take]
  obtain ⟨m, hm30, hmc, hR, hm1, hm2⟩ : ∃ m, m ≤ 30 ∧ m ≤ c ∧ Calls Try.prog 18 #[.slice A m c] w (FewRet 30 w) ∧ (30 < n → m = 30) ∧ (¬ 30 < n → m = n) := by
    by_cases h : 30 < n
    · exact ⟨30, by omega, by omega, rightF_any A 30 c 30 (l.take 30) w (by rw [ht]; exact hs.take 30) (by rw [List.length_take]; omega) (by omega) (Nat.le_refl _) (by omega), fun _ => rfl, fun h' => absurd h h'⟩
    · exact ⟨n, by omega, hc, rightF_any A n c 30 l w hs hn hc (by omega) (by omega), fun h' => absurd h' h, fun _ => rfl⟩
  have HR0 := Lib.hid hR
  have HC0 := Lib.hid (fun (W : World) (h : 30 ≤ c) => cut_head W A n c 30 h)
  clear hs hn ht hR
  by_cases h30 : 30 < n
  case' pos =>
    obtain rfl := hm1 h30
    have s1 : ∀ W, (Instr.slice 36 (.slice A n c) none (some (.int .i64 30)) none).run Try.prog W = .ok (.slice A 30 c) W := fun W => HC0.out W hmc
  case' neg => obtain rfl := hm2 h30
  all_goals
    clear hm1 hm2
    go_enter Try.func6, Try.ntmps6
    go_wp2_with fail
    refine HR0.out.mono ?_
    rintro e w1 ⟨s, rfl, hsr, hsz, hb1⟩
    obtain ⟨sl, hsl⟩ : ∃ sl, s.data.toList = sl := ⟨_, rfl⟩
    have hss : s.size = sl.length := by rw [← hsl]; simp
    have HSL := Lib.hid hsl
    have hat : ∀ k, (h : k < s.size) → sl[k]? = some s[k] := by
      intro k h
      rw [← hsl, List.getElem?_eq_getElem (by simpa using h)]
      rw [at_data s k h]
    have HAT := Lib.hid hat
    have HSS := Lib.hid hss
    rw [hsl] at hsr
    have HSR := Lib.hid hsr
    clear hsl hss hat hsr
    go_wp2_with fail
    go_loopw [4, 5] (fun v i wr => BlRel w1 sl v i wr) (fun _ i _ => s.size - (intOf i).toNat)
    case atStart => exact ⟨0, rfl, by omega, World.ownsRow_nil _ _ _ _, Below.refl _ _⟩
    case round =>
      obtain ⟨k, rfl, HR⟩ := hrel
      obtain ⟨hk, hown, hbr⟩ := HR
      have hkb := HSS.out
      by_cases hlt : k < s.size
      · have hgk := HAT.out k hlt
        obtain ⟨c0, hc0⟩ : ∃ c0, s[k] = c0 := ⟨_, rfl⟩
        rw [hc0] at hgk
        have hft := filt_take hgk
        have HFT := Lib.hid hft
        have HC := Lib.hid hc0
        have hfl : ((sl.take k).filter unq).length ≤ 200 := by
          refine Nat.le_trans (List.length_filter_le _ _) ?_
          rw [List.length_take]
          omega
        clear hgk hft hc0 hkb
        by_cases h34 : c0 = 34
        · have B1 : (((s[k]).toNat : Int) != 34) = false := by rw [HC.out, h34]; rfl
          have HU := Lib.hid (show unq c0 = false by rw [h34]; rfl)
          clear h34
          go_wp2_with fail
          go_roundw
          case rel =>
            refine ⟨k + 1, by go_num, by have := HSS.out; omega, ?_, hbr⟩
            rw [HFT.out, HU.out]
            simpa using hown
          case measure => simp [intOf]; omega
        · have h34' : ¬ ((s[k]).toNat = 34) := fun e => h34 (by rw [← HC.out]; exact UInt8.toNat_inj.1 e)
          have B1 : (((s[k]).toNat : Int) != 34) = true := by simp; omega
          by_cases h39 : c0 = 39
          · have B2 : (((s[k]).toNat : Int) != 39) = false := by rw [HC.out, h39]; rfl
            have HU := Lib.hid (show unq c0 = false by rw [h39]; rfl)
            clear h39 h34 h34'
            go_wp2_with fail
            go_roundw
            case rel =>
              refine ⟨k + 1, by go_num, by have := HSS.out; omega, ?_, hbr⟩
              rw [HFT.out, HU.out]
              simpa using hown
            case measure => simp [intOf]; omega
          · have h39' : ¬ ((s[k]).toNat = 39) := fun e => h39 (by rw [← HC.out]; exact UInt8.toNat_inj.1 e)
            have B2 : (((s[k]).toNat : Int) != 39) = true := by simp; omega
            have HU := Lib.hid (show unq c0 = true by simp [unq, h34, h39])
            clear h39 h34 h34' h39'
            go_wp2_with (at_builtin; refine wpList_append_own _ rfl _ _ 36 rfl w1.heap.size 5 i0 (.int .u8 0) 1 1 Try.underlying36 hi hz0 hz1 hz2 rfl (by decide) _ _ _ rfl (hown.alloc _) ⟨wr.heap.size, 0, none⟩ 1 1 [.int .u8 (s[k]).toNat] rfl rfl (new_one _ _ _) (by simp [Value.oneCell']) (by unfold maxLen; omega) (by omega) (by have := hbr.size; simp; omega) ?_; intro v' w2 hown' hgrow _)
            have hB2 := (hbr.alloc hbr.size _).grown hgrow (by have := hbr.size; simp; omega) (fun g hg => (hown.lt g hg).1)
            clear hgrow
            go_roundw
            case rel =>
              refine ⟨k + 1, by go_num, by have := HSS.out; omega, ?_, hB2⟩
              rw [HFT.out, HU.out, if_pos rfl, List.length_append, Lib.byteCells_append]
              rw [HC.out] at hown'
              exact hown'
            case measure => simp [intOf]; omega
      · have hke : k = sl.length := by omega
        subst hke
        rw [List.take_length] at hown
        obtain ⟨A1, c1, rfl, hc1⟩ := own_shape hown
        have hcv := convert_bytes (c := c1) (Sits.own hown)
        have hfl : (sl.filter unq).length ≤ 120 := by
          refine Nat.le_trans (List.length_filter_le _ _) ?_
          have := HSS.out
          omega
        have HFA := Lib.hid (fun c hc => (List.mem_filter.1 hc).2 : ∀ c ∈ sl.filter unq, unq c = true)
        have HFR := Lib.hid (rt_unq HSR.out)
        obtain ⟨F, hF⟩ : ∃ F, sl.filter unq = F := ⟨_, rfl⟩
        rw [hF] at hcv hfl HFA HFR ⊢
        have hB1 := below_after hb1 hbr
        have hex : ¬ (sl.length < s.size) := hlt
        clear hown hF hkb hlt hk
        have T1 := Lib.hid (blanks_one HFA.out)
        have T2 := Lib.hid (blanks_two HFA.out)
        have E1 := Lib.hid (show ((⟨#[60, 97, 32, 120, 61, 34]⟩ ++ ⟨F.toArray⟩ : ByteArray) ++ ⟨#[34, 62]⟩).data.toList = blanksOne F by unfold blanksOne; rw [cat_list', cat_list'])
        have E2 := Lib.hid (show ((⟨#[60, 65, 32, 10, 47, 32, 61, 32, 88, 9, 61, 32, 39]⟩ ++ ⟨F.toArray⟩ : ByteArray) ++ ⟨#[39, 32, 47, 32, 62]⟩).data.toList = blanksTwo F by unfold blanksTwo; rw [cat_list', cat_list'])
        have R1 := Lib.hid (show isB (blanksOne F) = true from rt_app (rt_app (rt_lit _ rfl) HFR.out) (rt_lit _ rfl))
        have R2 := Lib.hid (show isB (blanksTwo F) = true from rt_app (rt_app (rt_lit _ rfl) HFR.out) (rt_lit _ rfl))
        have Z1 := Lib.hid (show (blanksOne F).length = F.length + 8 by unfold blanksOne; simp only [List.length_append, List.length_cons, List.length_nil]; omega)
        have Z2 := Lib.hid (show (blanksTwo F).length = F.length + 18 by unfold blanksTwo; simp only [List.length_append, List.length_cons, List.length_nil]; omega)
        have zF : (⟨F.toArray⟩ : ByteArray).size = F.length := by simp [ByteArray.size]
        obtain ⟨fs, hfs⟩ : ∃ fs : ByteArray, (⟨F.toArray⟩ : ByteArray) = fs := ⟨_, rfl⟩
        rw [hfs] at hcv E1 E2 zF
        have hfz : fs.size ≤ 120 := by omega
        clear hfs zF
        have H1 := Lib.hid (HTS ((⟨#[60, 97, 32, 120, 61, 34]⟩ ++ fs : ByteArray) ++ ⟨#[34, 62]⟩) wr (HGB.below hB1) (by rw [E1.out]; exact R1.out) (by rw [str_list, E1.out, Z1.out]; omega))
        have H2 := Lib.hid (fun W hW => HTS ((⟨#[60, 65, 32, 10, 47, 32, 61, 32, 88, 9, 61, 32, 39]⟩ ++ fs : ByteArray) ++ ⟨#[39, 32, 47, 32, 62]⟩) W hW (by rw [E2.out]; exact R2.out) (by rw [str_list, E2.out, Z2.out]; omega))
        go_wp2_with fail
        refine H1.out.mono ?_
        rintro e w2 ⟨v1, rfl, hT1, hb2⟩
        rw [E1.out, T1.out] at hT1
        have hB2 := below_after hB1 hb2
        obtain ⟨A3, c3, rfl, hc3⟩ := hT1.shape
        have HT1 := Lib.hid (hT1.mono (S' := (· < w2.heap.size)) fun b hb => hb.2)
        clear hT1 hcv
        go_wp2_with fail
        refine (H2.out w2 (HGB.below hB2)).mono ?_
        rintro e w3 ⟨v2, rfl, hT2, hb3⟩
        rw [E2.out, T2.out] at hT2
        have hB3 := below_after hB2 hb3
        obtain ⟨A4, c4, rfl, hc4⟩ := hT2.shape
        have HT2 := Lib.hid (hT2.mono (S' := (· < w3.heap.size)) fun b hb => hb.2)
        have HT13 := Lib.hid (HT1.out.stay hb3)
        clear hT2 hb1 hb2 hB1 hB2
        have HSM := Lib.hid (same5_any (· < w2.heap.size) (· < w3.heap.size) _ _ _ w3 HT13.out (fun b hb => Nat.lt_of_lt_of_le hb hb3.size) HT2.out (fun b hb => hb) (by simp) (by intro t ht; simp only [List.mem_singleton] at ht; subst ht; show ([_] : List (ByteArray × ByteArray)).length ≤ _; simp))
        obtain ⟨b, o, c5, hv5, _, hSb, hcell⟩ := HT13.out.open_ (by simp)
        obtain ⟨va0, k0⟩ := hcell 0 _ rfl
        injection hv5 with hA5 _ hcc5
        subst hA5
        subst hcc5
        obtain ⟨A6, c6, rfl, _, _⟩ := id k0.at_
        have c02 : w3.cell? ⟨b, o + 2, none⟩ = some (.slice A6 1 c6) := k0.c2
        have hbl : b < w3.heap.size := Nat.lt_of_lt_of_le hSb hb3.size
        clear hcell k0 hb3
        go_wp2_with fail
        refine HSM.out.mono ?_
        rintro e w4 ⟨rfl, hb4⟩
        have d02 : w4.cell? ⟨b, o + 2, none⟩ = some (.slice A6 1 c6) := (hb4.cell (p := ⟨b, o + 2, none⟩) hbl).trans c02
        have hB4 := below_after hB3 hb4
        have HL := Lib.hid (lives5_any HTS w4 (HGB.below hB4))
        clear hb4 hB3
        go_wp2_with fail
        refine HL.out.mono ?_
        rintro e w5 ⟨rfl, hb5⟩
        go_wp2_with fail
        go_ret
        exact ⟨rfl, below_after hB4 hb5⟩

end Go.Proofs.Ytialfafjoemppaa
