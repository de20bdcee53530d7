/- WriteBare: its walk (the second half). -/
import Derived.Test.YtenjhfkdbmljnaaWLawD
import Derived.Test.YtenjhfkdbmljnaaBareM
import Derived.Test.YtenjhfkdbmljnaaLaid
import Derived.Deep.RegionHeld3
namespace Go.Proofs.Ytenjhfkdbmljnaa
open Go.RowKit
set_option linter.unusedVariables false
set_option linter.unusedSimpArgs false

theorem sh_cnt {G : List Nd} (h : Sh G) : (txtL false G).count 60 = 2 * G.length := by
  refine list_cnt G fun m hm => ?_
  obtain ⟨h1, h2, h3, h4⟩ := h m hm
  refine elem_cnt h1 (by rw [h2]; decide) (by rw [h2]; decide) (by rw [h2]; decide) (fun a ha => by rw [h3 a ha]; decide) h4

/-- One byte more. -/
theorem cnt_take {l : List UInt8} {k : Nat} {b : UInt8} (h : l[k]? = some b) : (l.take (k + 1)).count 60 = (l.take k).count 60 + (if b = 60 then 1 else 0) := by
  rw [List.take_add_one, h, List.count_append]
  by_cases e : b = 60
  · subst e; rfl
  · rw [if_neg e]
    show _ + List.count 60 [b] = _
    rw [List.count_cons_of_ne (by simpa using e)]
    rfl

structure BrAt (w wr : World) (n k : Nat) (g : List Nd) (v : Value) : Prop where
  le : k ≤ n
  l6 : k ≤ 6
  own : OwnC wr w.heap.size w.heap.size g v
  sh : Sh g
  fine : Fine g
  ln : g.length = k
  bel : Below w.heap.size w wr
def BrRel (w : World) (n : Nat) (x y : Value) (wr : World) : Prop := ∃ (k : Nat) (g : List Nd), y = .int .i64 k ∧ BrAt w wr n k g x
def CtRel (l : List UInt8) (x y : Value) (wr w : World) : Prop := ∃ k : Nat, x = .int .i64 ((l.take k).count 60 : Nat) ∧ y = .int .i64 k ∧ k ≤ l.length ∧ wr = w

theorem fine_snoc {l : List Nd} {n : Nd} (h : Fine l) (hl : l.length + 1 ≤ maxLen) (hn : FineN n) (hk : Fine n.kids) : Fine (l ++ [n]) := by
  cases h with
  | mk l h0 h1 h2 =>
    refine .mk _ (by rw [List.length_append]; exact hl) ?_ ?_
    · intro m hm
      rcases List.mem_append.1 hm with hm | hm
      · exact h1 m hm
      · simp only [List.mem_singleton] at hm
        subst hm
        exact hn
    · intro m hm
      rcases List.mem_append.1 hm with hm | hm
      · exact h2 m hm
      · simp only [List.mem_singleton] at hm
        subst hm
        exact hk

theorem sh_elt (s kt : ByteArray) : ∀ m ∈ [elt ⟨#[105, 100]⟩ s ⟨#[98]⟩ kt], m.kind = 1 ∧ m.name = ⟨#[98]⟩ ∧ (∀ a ∈ m.attrs, a.1 = ⟨#[105, 100]⟩) ∧ ShK m.kids := by
  intro m hm
  simp only [List.mem_singleton] at hm
  subst hm
  refine ⟨rfl, rfl, ?_, ?_⟩
  · intro a ha
    have ha' : a ∈ [((⟨#[105, 100]⟩ : ByteArray), s)] := ha
    simp only [List.mem_singleton] at ha'
    subst ha'
    rfl
  · intro q hq
    have hq' : q ∈ [Nd.mk 2 ⟨#[]⟩ [] kt []] := hq
    simp only [List.mem_singleton] at hq'
    subst hq'
    rfl

theorem br_next {w wr W w4 : World} {n k c1 : Nat} {g : List Nd} {A1 : Option Addr} {v' : Value} {s : ByteArray} (h : BrAt w wr n k g (.slice A1 g.length c1)) (hkn : k < n) (hk6 : k < 6) (hss : s.size ≤ 140737488351232)
    (hb : Below wr.heap.size wr W) (hown : OwnC w4 w.heap.size w.heap.size (g ++ [elt ⟨#[105, 100]⟩ s ⟨#[98]⟩ (s ++ ⟨#[120]⟩)]) v') (hg : W.grownBy w4 (Value.slice A1 g.length c1).ownBlock) :
    BrAt w w4 n (k + 1) (g ++ [elt ⟨#[105, 100]⟩ s ⟨#[98]⟩ (s ++ ⟨#[120]⟩)]) v' := by
  have hbel : Below w.heap.size w W := h.bel.trans (hb.mono h.bel.size)
  have hsx : (s ++ (⟨#[120]⟩ : ByteArray)).size = s.size + 1 := by rw [ByteArray.size_append]; rfl
  refine ⟨by omega, by omega, hown, ?_, ?_, by rw [List.length_append, h.ln]; rfl, hbel.grown hg hbel.size fun k hk => (OwnT.lt h.own k hk).1⟩
  · intro m hm
    rcases List.mem_append.1 hm with hm | hm
    · exact h.sh m hm
    · exact sh_elt s _ m hm
  · refine fine_snoc h.fine (by rw [h.ln]; unfold maxLen; omega) ?_ ?_
    · refine ⟨by show (-9223372036854775808 : Int) ≤ 1; omega, by show (1 : Int) ≤ 9223372036854775807; omega, by show 1 ≤ maxLen; unfold maxLen; omega, by show 0 ≤ maxLen; omega, by show 1 ≤ maxLen; unfold maxLen; omega, ?_⟩
      intro a ha
      have ha' : a ∈ [((⟨#[105, 100]⟩ : ByteArray), s)] := ha
      simp only [List.mem_singleton] at ha'
      subst ha'
      exact ⟨by show 2 ≤ maxLen; unfold maxLen; omega, by show s.size ≤ maxLen; unfold maxLen; omega⟩
    · show Fine [Nd.mk 2 ⟨#[]⟩ [] (s ++ ⟨#[120]⟩) []]
      refine .mk _ (by unfold maxLen; simp) ?_ ?_
      · intro m hm
        simp only [List.mem_singleton] at hm
        subst hm
        exact ⟨by show (-9223372036854775808 : Int) ≤ 2; omega, by show (2 : Int) ≤ 9223372036854775807; omega, by show 0 ≤ maxLen; omega, by show (s ++ (⟨#[120]⟩ : ByteArray)).size ≤ maxLen; rw [hsx]; unfold maxLen; omega, by show 0 ≤ maxLen; omega, fun a ha => by cases ha⟩
      · intro m hm
        simp only [List.mem_singleton] at hm
        subst hm
        exact .mk [] (by simp [maxLen]) (fun m hm => by cases hm) (fun m hm => by cases hm)

set_option maxHeartbeats 2000000 in
set_option maxRecDepth 100000 in
theorem writeBare_end (A : Option Addr) (n c : Nat) (ls : List ByteArray) (w : World) (hs : Cells (· < w.heap.size) w A (ls.map Value.string)) (hn : n = ls.length) (hc : n ≤ c) (hm : n ≤ maxLen) (hz : ∀ s ∈ ls, s.size ≤ 140737488351232) :
    Calls Try.prog 4 #[.slice A n c] w fun e w' => e = .returned (.bool true) ∧ Below w.heap.size w w' := by
  unfold maxLen at hm
  have HN := Lib.hid hn
  clear hn
  go_enter Try.func4, Try.ntmps4
  go_wp2_with fail
  go_loopw [3, 4] (fun x y wr => BrRel w n x y wr) (fun _ y _ => n - (intOf y).toNat)
  case atStart => exact ⟨0, [], rfl, by omega, by omega, OwnC.nil _ _ _, (by intro m hm; cases hm), .mk [] (by simp [maxLen]) (by simp) (by simp), rfl, Below.refl _ _⟩
  case round =>
    obtain ⟨k, g, rfl, HR⟩ := hrel
    have hk := HR.le
    have hk6 := HR.l6
    have HRR := Lib.hid HR
    clear HR
    by_cases hlt : k < n ∧ k < 6
    · obtain ⟨hkn, hk6'⟩ := hlt
      obtain ⟨bb, o, rfl, hbb, hcell⟩ := hs (by rw [List.length_map]; have := HN.out; omega)
      obtain ⟨s, hsk⟩ : ∃ s, ls[k]? = some s := ⟨_, List.getElem?_eq_getElem (by have := HN.out; omega)⟩
      have q0 : wr.cell? ⟨bb, o + k, none⟩ = some (.string s) := (HRR.out.bel.cell (p := ⟨bb, o + k, none⟩) hbb).trans (hcell k (.string s) (by rw [List.getElem?_map, hsk]; rfl))
      have hss : s.size ≤ 140737488351232 := hz s (List.mem_of_getElem? hsk)
      have i1 : (k : Int) < (n : Int) := by omega
      have i2 : (0 : Int) ≤ (k : Int) := by omega
      have i3 : (k : Int) < 6 := by omega
      have i4 : ¬ (9223372036854775807 < s.size + (⟨#[120]⟩ : ByteArray).size) := by show ¬ (_ < s.size + 1); omega
      have i5 : ¬ (9223372036854775807 < s.size + 1) := by omega
      have hbw : w.heap.size ≤ wr.heap.size := HRR.out.bel.size
      have hgl : g.length ≤ 1000000 := by have := HRR.out.ln; omega
      obtain ⟨A1, c1, rfl, hc1⟩ := OwnT.shape HRR.out.own
      have L1 := Lib.hid (laid1 HRR.out.own hbw ⟨#[105, 100]⟩ s ⟨#[98]⟩ (s ++ ⟨#[120]⟩))
      have L2 := Lib.hid (laid2 HRR.out.own hbw ⟨#[105, 100]⟩ s ⟨#[98]⟩ (s ++ ⟨#[120]⟩))
      have KC := Lib.hid (fun (W : World) (h : Below wr.heap.size wr W) => (h.cell (p := ⟨bb, o + k, none⟩) (Nat.lt_of_lt_of_le hbb hbw)).trans q0)
      have KF := Lib.hid (fun (W w4 : World) (h : Below wr.heap.size wr W) (h4 : W.grownBy w4 (Value.slice A1 g.length c1).ownBlock) => (far_in HRR.out.own h h4 (p := ⟨bb, o + k, none⟩) hbb hbw).trans q0)
      have NXT := Lib.hid (fun (W : World) v' w4 (hb : Below wr.heap.size wr W) (h : OwnC w4 w.heap.size w.heap.size (g ++ [elt ⟨#[105, 100]⟩ s ⟨#[98]⟩ (s ++ ⟨#[120]⟩)]) v') (h4 : W.grownBy w4 (Value.slice A1 g.length c1).ownBlock) => br_next HRR.out hkn hk6' hss hb h h4)
      clear hs hcell hsk hc1
      go_wp2_with fail
      go_region_held3 (fun W => W.cell? ⟨bb, o + k, none⟩ = some (.string s))
        (first | exact q0 | exact KC.out _ (Below.refl _ _).drew | exact KC.out _ (below1 _ _) | exact KC.out _ (below2 _ _ _) | exact KC.out _ (below3 _ _ _ _) | exact KF.out _ _ (below3 _ _ _ _) hgr4)
        (first
          | (refine step_append_node rfl _ _ rfl w.heap.size w.heap.size g _ rfl L1.out.own _ _ 1 rfl L1.out.news L1.out.at_ L1.out.kids hgl L1.out.le ?_; intro v' w4 hown4 hgr4)
          | (refine step_append_node rfl _ _ rfl w.heap.size w.heap.size g _ rfl L2.out.own _ _ 1 rfl L2.out.news L2.out.at_ L2.out.kids hgl L2.out.le ?_; intro v' w4 hown4 hgr4))
      all_goals go_wp2_with fail
      all_goals go_roundw
      case rel => exact ⟨k + 1, _, by go_num, NXT.out _ v' w4 (below3 _ _ _ _) hown4 hgr4⟩
      case rel => exact ⟨k + 1, _, by go_num, NXT.out _ v' w4 (below3 _ _ _ _) hown4 hgr4⟩
      case measure => simp [intOf]; omega
      case measure => simp [intOf]; omega
    · have hex : n ≤ k ∨ (k < n ∧ 6 ≤ k) := by omega
      have hT : Tree (· < wr.heap.size) wr g _ := (HRR.out.own.tree (Nat.le_refl _)).mono fun b hb => hb.2
      have HG := Lib.hid (goodK_any g _ wr hT HRR.out.fine)
      have HB := Lib.hid HRR.out.bel
      have HSH := Lib.hid HRR.out.sh
      clear hT HRR
      rcases hex with hex | ⟨hex, hex6⟩
      all_goals
        go_wp2_with fail
        refine HG.out.mono ?_
        rintro e w1 ⟨G, vG, rfl, hG, hGok, hGz, hb1, hkp⟩
        obtain ⟨A1, c1, rfl, hc1⟩ := OwnT.shape hG
        have HC := Lib.hid (sh_cnt (hkp.2 HSH.out))
        have HTX := Lib.hid (text_det _ G _ w1 ((hG.tree (Nat.le_refl _)).mono fun b hb => hb.2) (fun b hb => hb) (by omega))
        have hgl : G.length ≤ 67200 := by have := szL_len G; omega
        have htl := txt_len G false
        have HB1 := Lib.hid (below_after HB.out hb1)
        clear hG hGok hb1 hkp
        go_wp2_with fail
        refine HTX.out.mono ?_
        rintro e w2 ⟨rfl, hb2⟩
        have HB2 := Lib.hid (below_after HB1.out hb2)
        clear hb2
        obtain ⟨st, hst⟩ : ∃ s, tB (txtL false G) = s := ⟨_, rfl⟩
        have hsl : txtL false G = st.data.toList := by rw [← hst]; simp [tB]
        have hsz : st.size = st.data.toList.length := by simp
        rw [hst]
        rw [hsl] at HC htl
        have hTl : st.size ≤ 1000000 := by omega
        clear hst hsl htl HTX hsz
        go_wp2_with fail
        go_loopw [6, 7] (fun x y wx => CtRel st.data.toList x y wx w2) (fun _ y _ => st.size - (intOf y).toNat)
        case atStart => exact ⟨0, by simp, rfl, by omega, rfl⟩
        case round =>
          obtain ⟨q, rfl, rfl, hq, rfl⟩ := hrel
          have hzz : st.data.toList.length = st.size := by simp
          rw [hzz] at hq
          have hcl : (st.data.toList.take q).count 60 ≤ 1000000 := by
            refine Nat.le_trans List.count_le_length ?_
            rw [List.length_take]
            omega
          by_cases hql : q < st.size
          · have hget : st.data.toList[q]? = some st[q] := by
              rw [List.getElem?_eq_getElem (by rw [hzz]; exact hql)]
              rfl
            have HCT := Lib.hid (cnt_take hget)
            have HQZ := Lib.hid hzz
            clear hget hzz
            by_cases h60 : st[q] = 60
            · have B6 : ((st[q].toNat : Int) == 60) = true := by rw [h60]; rfl
              have h60' : st[q].toNat = 60 := by rw [h60]; rfl
              have HSX := Lib.hid h60
              clear h60
              go_wp2_with fail
              go_roundw
              case rel =>
                refine ⟨q + 1, ?_, by go_num, by rw [HQZ.out]; omega, rfl⟩
                rw [HCT.out, if_pos HSX.out]
                go_num
              case measure => simp [intOf]; omega
            · have h60' : ¬ st[q].toNat = 60 := fun e => h60 (UInt8.toNat_inj.1 e)
              have B6 : ((st[q].toNat : Int) == 60) = false := by simp; omega
              have HSX := Lib.hid h60
              clear h60
              go_wp2_with fail
              go_roundw
              case rel =>
                refine ⟨q + 1, ?_, by go_num, by rw [HQZ.out]; omega, rfl⟩
                rw [HCT.out, if_neg HSX.out]
                rfl
              case measure => simp [intOf]; omega
          · have hqe : q = st.data.toList.length := by omega
            rw [hqe, List.take_length, HC.out]
            have hex3 : ¬ (st.data.toList.length < st.size) := by omega
            have hze : st.data.toList.length = st.size := hzz
            rw [hze]
            clear hqe hex3 hze hcl hql hq hzz
            go_wp2_with fail
            refine (lives4_any _).mono ?_
            rintro e w3 ⟨rfl, hb3⟩
            have HE := Lib.hid (below_after HB2.out hb3)
            clear hb3
            go_wp2_with fail
            go_ret
            exact ⟨rfl, HE.out⟩

end Go.Proofs.Ytenjhfkdbmljnaa
