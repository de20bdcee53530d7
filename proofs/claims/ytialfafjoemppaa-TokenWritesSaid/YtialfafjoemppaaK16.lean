/- Parts of the proof, in build order: GoodR Good Lw5W. -/
import Derived.Test.YtialfafjoemppaaK15
import Derived.Test.YtialfafjoemppaaK06
import Derived.Test.YtialfafjoemppaaK14
import Derived.Test.YtialfafjoemppaaK07
import Derived.Test.YtialfafjoemppaaK13

/- Part GoodR. -/
namespace Go.Proofs.Ytialfafjoemppaa
open Go.RowKit
set_option linter.unusedVariables false
set_option linter.unusedSimpArgs false
attribute [local go_sem] cvOp

set_option maxHeartbeats 4000000 in
set_option maxRecDepth 100000 in
theorem good_any (l : List Nd) : ∀ (S : Nat → Prop) (v : Value) (w : World), Tree S w l v → (∀ b, S b → b < w.heap.size) → szL l ≤ 100000 →
    Calls Try.prog 19 #[v] w (GdEnd w l) := by
  induction l using nd_ind with
  | h l ih =>
    intro S v w hT hS hsl
    have hlen := szL_len l
    have kb := fun (w : World) (s : ByteArray) => run_bytes_of_string (P := Try.prog) w 9 36 5 s Try.underlying9 Try.underlying36 Try.underlying5
    obtain ⟨A, c, rfl, hc⟩ := hT.shape
    have HT := Lib.hid hT
    have IH := Lib.hid ih
    have HS := Lib.hid hS
    clear hT ih hS
    go_enter Try.func19, Try.ntmps19
    go_wp2_with fail
    go_loopw [3, 4] (fun y z wr => GdRel w l y z wr) (fun _ z _ => l.length - (intOf z).toNat)
    case atStart => exact ⟨0, [], rfl, by omega, OwnC.nil _ _ _, by simp [szL], ⟨by simp, by simp⟩, Below.refl _ _, Kp.nil _⟩
    case round =>
      obtain ⟨k, out, rfl, HR⟩ := hrel
      have hk := HR.le
      have hown := HR.own
      have hsz := HR.sz
      have hok := HR.ok
      have hbel := HR.bel
      have HKP := Lib.hid HR.kp
      clear HR
      have hol := szL_len out
      have htk : szL (l.take k) ≤ szL l := by
        have : szL l = szL (l.take k) + szL (l.drop k) := by rw [← szL_append, List.take_append_drop]
        omega
      by_cases hlt : k < l.length
      · obtain ⟨b, o, c', hv, _, hSb, hcell⟩ := HT.out.open_ (by omega)
        injection hv with hA _ hcc
        subst hA
        subst hcc
        obtain ⟨n, hn⟩ : ∃ n, l[k]? = some n := ⟨_, List.getElem?_eq_getElem hlt⟩
        obtain ⟨va, vk, hat⟩ := hcell k n hn
        have hbw : b < w.heap.size := HS.out b hSb
        have q0 : wr.cell? ⟨b, o + k * 5, none⟩ = some (.int .i64 n.kind) := (hbel.cell (p := ⟨b, o + k * 5, none⟩) hbw).trans hat.c0
        have q1 : wr.cell? ⟨b, o + k * 5 + 1, none⟩ = some (.string n.name) := (hbel.cell (p := ⟨b, o + k * 5 + 1, none⟩) hbw).trans hat.c1
        have q2 : wr.cell? ⟨b, o + k * 5 + 2, none⟩ = some va := (hbel.cell (p := ⟨b, o + k * 5 + 2, none⟩) hbw).trans hat.c2
        have q3 : wr.cell? ⟨b, o + k * 5 + 3, none⟩ = some (.string n.text) := (hbel.cell (p := ⟨b, o + k * 5 + 3, none⟩) hbw).trans hat.c3
        have q4 : wr.cell? ⟨b, o + k * 5 + 4, none⟩ = some vk := (hbel.cell (p := ⟨b, o + k * 5 + 4, none⟩) hbw).trans hat.c4
        have hns := szL_at hn
        have hne := szN_eq n
        have hst := szL_snoc_take hn
        have HST := Lib.hid hst
        have HNE := Lib.hid hne
        have HAT := Lib.hid hat
        have HN := Lib.hid hn
        have HOK := Lib.hid hok
        have hwz := hbel.size
        have hbr : b < wr.heap.size := by omega
        have hns1 : n.text.size ≤ 100000 := by omega
        have hns2 : n.name.size ≤ 100000 := by omega
        clear hcell hn hat hst hne hok
        by_cases hkind : n.kind = 2 ∨ n.kind = 3
        · have B0 : decide (n.kind < 1) = false := by simp; omega
          have B1 : decide (3 < n.kind) = false := by simp; omega
          have B2 : (n.kind != 1) = true := by simp; omega
          have HKD := Lib.hid hkind
          clear hkind
          obtain ⟨tl, htl⟩ : ∃ tl, n.text.data.toList = tl := ⟨_, rfl⟩
          have htz : n.text.size = tl.length := by rw [← htl]; simp
          have HTL := Lib.hid htl
          have HTZ := Lib.hid htz
          clear htl htz
          go_wp2_with fail
          obtain ⟨w1, hw1⟩ : ∃ w1, wr.alloc (.cells #[.int .i64 n.kind, .string ⟨#[]⟩, .slice none 0 0, .string ⟨#[]⟩, .slice none 0 0] 28) = w1 := ⟨_, rfl⟩
          have hz1 : w1.heap.size = wr.heap.size + 1 := by rw [← hw1]; simp
          have hb1 : Below wr.heap.size wr w1 := by rw [← hw1]; exact (Below.refl _ _).alloc (Nat.le_refl _) _
          have d : ∀ i u, #[Value.int .i64 n.kind, .string ⟨#[]⟩, .slice none 0 0, .string ⟨#[]⟩, .slice none 0 0][i]? = some u → w1.cell? ⟨wr.heap.size, i, none⟩ = some u ∧ w1.frozen? ⟨wr.heap.size, i, none⟩ = false := by
            intro i u hi
            rw [← hw1]
            exact ⟨by simpa using hi, by simp⟩
          rw [hw1, ← hz1]
          have HD1 := Lib.hid d
          clear hw1 d
          obtain ⟨w2, hw2, sits2, hb2⟩ := sits_conv (w := w1) HTL.out
          rw [hw2]
          have hcap := grownCap_ge w1 n.text.size 0 5
          rw [HTZ.out] at hcap ⊢
          clear hw2
          refine (rightR_any _ _ tl w2 sits2 hcap (by have := HTZ.out; omega)).mono ?_
          have hrl := right_len tl
          have hrb := isB_right tl
          obtain ⟨r, hr⟩ : ∃ r, right tl = r := ⟨_, rfl⟩
          rw [hr] at hrl hrb ⊢
          obtain ⟨t, ht, htl, htz⟩ := str_of r
          rw [ht]
          rintro e w3 ⟨rfl, hb3⟩
          have hB3 : Below w1.heap.size w1 w3 := below_after hb2 hb3
          rw [← htl] at hrb
          have htz2 : t.size ≤ 4 * n.text.size := by have := HTZ.out; omega
          have e : ∀ i u, #[Value.int .i64 n.kind, .string ⟨#[]⟩, .slice none 0 0, .string ⟨#[]⟩, .slice none 0 0][i]? = some u → w3.cell? ⟨wr.heap.size, i, none⟩ = some u ∧ w3.frozen? ⟨wr.heap.size, i, none⟩ = false := by
            intro i u hi
            exact ⟨(hB3.cell (p := ⟨wr.heap.size, i, none⟩) (by show wr.heap.size < _; omega)).trans (HD1.out i u hi).1, (hB3.frozen (p := ⟨wr.heap.size, i, none⟩) (by show wr.heap.size < _; omega)).trans (HD1.out i u hi).2⟩
          have e0 := (e 0 _ rfl).1
          have e1 := (e 1 _ rfl).1
          have e2 := (e 2 _ rfl).1
          have e3 := (e 3 _ rfl).1
          have e4 := (e 4 _ rfl).1
          have f3 := (e 3 _ rfl).2
          have hz3 : wr.heap.size < w3.heap.size := by have := hB3.size; omega
          have hbo : Below wr.heap.size wr w3 := hb1.trans (hB3.mono (by omega))
          have HRB := Lib.hid hrb
          obtain ⟨A6, c6, rfl, hc6⟩ := OwnT.shape hown
          have hownF := fun ob => OwnC.later hown ((hbo.setCell (p := ⟨wr.heap.size, 3, none⟩) (Nat.le_refl _) (.string t)).alloc (by simp; omega) ob)
          have HOF := Lib.hid hownF
          have hbf : Below w.heap.size w (w3.setCell ⟨wr.heap.size, 3, none⟩ (.string t)) := (hbel.trans (hbo.mono hwz)).setCell (p := ⟨wr.heap.size, 3, none⟩) hwz _
          have HLO := Lib.hid (OwnT.lt hown)
          have hn5 : ∀ i u, (ncells1 ⟨.mk n.kind ⟨#[]⟩ [] t [], .slice none 0 0, .slice none 0 0⟩)[i]? = some u →
              ((w3.setCell ⟨wr.heap.size, 3, none⟩ (.string t)).alloc (.cells #[.int .i64 n.kind, .string ⟨#[]⟩, .slice none 0 0, .string t, .slice none 0 0] 28)).cell? ((⟨w3.heap.size, 0, none⟩ : Addr).add i) = some u := by
            intro i u hi
            have := new_five (w3.setCell ⟨wr.heap.size, 3, none⟩ (.string t)) 28 ⟨.mk n.kind ⟨#[]⟩ [] t [], .slice none 0 0, .slice none 0 0⟩ i u hi
            rw [show (w3.setCell ⟨wr.heap.size, 3, none⟩ (.string t)).heap.size = w3.heap.size by simp] at this
            exact this
          have HN5 := Lib.hid hn5
          have hwr3 : w.heap.size ≤ w3.heap.size + 1 := by omega
          clear hr ht htl htz hrl hrb hb1 hb2 hb3 hB3 sits2 hcap e hownF hown hn5 hbo
          go_wp2_with (at_builtin; refine wpList_append_node rfl _ _ rfl w.heap.size w.heap.size out (.slice A6 out.length c6) rfl (HOF.out _) ⟨.mk n.kind ⟨#[]⟩ [] t [], .slice none 0 0, .slice none 0 0⟩ ⟨w3.heap.size, 0, none⟩ 1 rfl HN5.out (AttrsAt.nil _ _) (Tree.nil _ _) (by omega) (by simpa using hwr3) ?_; intro v' w4 hown' hgrow)
          have hB4 : Below w.heap.size w w4 := (hbf.alloc hbf.size _).grown hgrow (by simpa using hwr3) (fun g hg => (HLO.out g hg).1)
          clear hgrow
          go_roundw
          case rel =>
            refine ⟨k + 1, out ++ [.mk n.kind ⟨#[]⟩ [] t []], by go_num, by omega, hown', ?_, preOK_snoc (n := .mk n.kind ⟨#[]⟩ [] t []) HOK.out (.inr ⟨HKD.out, rfl, rfl, rfl, HRB.out⟩) GoodL.nil, hB4, HKP.out.snocT HN.out HKD.out _⟩
            rw [szL_append, szL_cons, szL_nil, szN_mk, HST.out, HNE.out]
            simp only [szA, szL]
            show szL out + (10 + 0 + t.size + 0 + 0 + 0) ≤ _
            omega
          case measure => simp [intOf]; omega
        · obtain ⟨A2, c2, rfl, _, _⟩ := id HAT.out.at_
          have hw := fun w => word_eq n.name w hns2
          have HW := Lib.hid hw
          have HKD := Lib.hid hkind
          clear hw hkind
          obtain ⟨q, hq⟩ : ∃ q, (decide (n.kind < 1) || decide (3 < n.kind)) = q := ⟨_, rfl⟩
          have HQ := Lib.hid hq
          clear hq
          go_upto_region 6 with fail
          go_cut [29] (fun s wx => s = .bool q ∧ wx = wr.alloc (.cells #[.int .i64 n.kind, .string ⟨#[]⟩, .slice none 0 0, .string ⟨#[]⟩, .slice none 0 0] 28))
          case first =>
            have hkk : n.kind = 1 ∨ n.kind < 1 ∨ 3 < n.kind := by have := HKD.out; omega
            have hq := HQ.out
            rcases hkk with hk1 | hk1 | hk1
            case' inl =>
              rw [hk1] at hq ⊢
              have hq' : false = q := hq
              clear hq
              subst hq'
            case' inr.inl =>
              have B0 : decide (n.kind < 1) = true := by simp; omega
              rw [B0] at hq
              have hq' : true = q := hq
              clear hq
              subst hq'
            case' inr.inr =>
              have B0 : decide (n.kind < 1) = false := by simp; omega
              have B1 : decide (3 < n.kind) = true := by simp; omega
              rw [B0, B1] at hq
              have hq' : true = q := hq
              clear hq
              subst hq'
            all_goals
              go_wp2_with fail
              go_meet
            all_goals first
              | exact ⟨rfl, rfl⟩
              | exact ⟨rfl, by rw [hk1]⟩
          case rest =>
            obtain ⟨rfl, rfl⟩ := hcut
            go_upto_if 29 with fail
            go_cut [] (fun wx => wx = wr.alloc (.cells #[.int .i64 1, .string ⟨#[]⟩, .slice none 0 0, .string ⟨#[]⟩, .slice none 0 0] 28))
            case first =>
              have hq := HQ.out
              cases q with
              | true =>
                clear hq
                go_wp2_with fail
                go_meet
                case rel => rfl
              | false =>
                have hk1 : n.kind = 1 := by
                  have := HKD.out
                  simp at hq
                  omega
                clear hq
                rw [hk1]
                go_wp2_with fail
                go_meet
                case rel => rfl
            case rest =>
              subst hcut
              go_wp2_with fail
              obtain ⟨w1, hw1⟩ : ∃ w1, wr.alloc (.cells #[.int .i64 1, .string ⟨#[]⟩, .slice none 0 0, .string ⟨#[]⟩, .slice none 0 0] 28) = w1 := ⟨_, rfl⟩
              have hz1 : w1.heap.size = wr.heap.size + 1 := by rw [← hw1]; simp
              have hb1 : Below wr.heap.size wr w1 := by rw [← hw1]; exact (Below.refl _ _).alloc (Nat.le_refl _) _
              have d : ∀ i u, #[Value.int .i64 1, .string ⟨#[]⟩, .slice none 0 0, .string ⟨#[]⟩, .slice none 0 0][i]? = some u → w1.cell? ⟨wr.heap.size, i, none⟩ = some u ∧ w1.frozen? ⟨wr.heap.size, i, none⟩ = false := by
                intro i u hi
                rw [← hw1]
                exact ⟨by simpa using hi, by simp⟩
              rw [hw1]
              have HD1 := Lib.hid d
              clear hw1 d
              refine (HW.out w1).mono ?_
              rintro e w2 ⟨t, rfl, htn, htz, hb2, hte⟩
              have HTE := Lib.hid hte
              clear hte
              have hz2 : wr.heap.size < w2.heap.size := by have := hb2.size; omega
              have e' : ∀ i u, #[Value.int .i64 1, .string ⟨#[]⟩, .slice none 0 0, .string ⟨#[]⟩, .slice none 0 0][i]? = some u → w2.cell? ⟨wr.heap.size, i, none⟩ = some u ∧ w2.frozen? ⟨wr.heap.size, i, none⟩ = false := by
                intro i u hi
                exact ⟨(hb2.cell (p := ⟨wr.heap.size, i, none⟩) (by show wr.heap.size < _; omega)).trans (HD1.out i u hi).1, (hb2.frozen (p := ⟨wr.heap.size, i, none⟩) (by show wr.heap.size < _; omega)).trans (HD1.out i u hi).2⟩
              have e1 := (e' 1 _ rfl).1
              have f1 := (e' 1 _ rfl).2
              have HE2 := Lib.hid e'
              have HTN := Lib.hid htn
              have hbo : Below wr.heap.size wr w2 := hb1.trans (hb2.mono (by omega))
              have HBO := Lib.hid hbo
              clear e' htn hb1 hb2 hbo
              go_wp2_with fail
              obtain ⟨W0, hW0⟩ : ∃ W0, w2.setCell ⟨wr.heap.size, 1, none⟩ (.string t) = W0 := ⟨_, rfl⟩
              have hz0 : W0.heap.size = w2.heap.size := by rw [← hW0]; simp
              have d0 : W0.cell? ⟨wr.heap.size, 0, none⟩ = some (.int .i64 1) := by rw [← hW0, World.cell?_setCell_other _ _ _ _ (by simp)]; exact (HE2.out 0 _ rfl).1
              have d1 : W0.cell? ⟨wr.heap.size, 1, none⟩ = some (.string t) := by rw [← hW0]; exact World.cell?_setCell_same _ _ _ e1
              have d2 : W0.cell? ⟨wr.heap.size, 2, none⟩ = some (.slice none 0 0) := by rw [← hW0, World.cell?_setCell_other _ _ _ _ (by simp)]; exact (HE2.out 2 _ rfl).1
              have d3 : W0.cell? ⟨wr.heap.size, 3, none⟩ = some (.string ⟨#[]⟩) := by rw [← hW0, World.cell?_setCell_other _ _ _ _ (by simp)]; exact (HE2.out 3 _ rfl).1
              have d4 : W0.cell? ⟨wr.heap.size, 4, none⟩ = some (.slice none 0 0) := by rw [← hW0, World.cell?_setCell_other _ _ _ _ (by simp)]; exact (HE2.out 4 _ rfl).1
              have df2 : W0.frozen? ⟨wr.heap.size, 2, none⟩ = false := by rw [← hW0, World.frozen?_setCell]; exact (HE2.out 2 _ rfl).2
              have df4 : W0.frozen? ⟨wr.heap.size, 4, none⟩ = false := by rw [← hW0, World.frozen?_setCell]; exact (HE2.out 4 _ rfl).2
              have hbo0 : Below wr.heap.size wr W0 := by rw [← hW0]; exact HBO.out.setCell (p := ⟨wr.heap.size, 1, none⟩) (Nat.le_refl _) _
              rw [hW0]
              have HD := Lib.hid (And.intro d0 (And.intro d1 (And.intro d2 (And.intro d3 d4))))
              have HB0 := Lib.hid hbo0
              have hz02 : wr.heap.size < W0.heap.size := by omega
              clear hW0 e1 f1 d0 d1 d3 d4 hbo0 hz0
              obtain ⟨wo, rfl⟩ : ∃ wo : World, wo = wr := ⟨_, rfl⟩
              go_loopw [6] (fun y wi => InGRel W0 wo.heap.size n.attrs y wi) (fun y _ => n.attrs.length - (intOf y).toNat)
              case atStart => exact ⟨0, [], _, rfl, by omega, d2, fun _ _ => rfl, df2, df4, World.ownsRow_nil _ _ _ _, ⟨by simp, List.Pairwise.nil⟩, by simp [szA], Below.refl _ _, Nat.le_refl _, by simp⟩
              case round =>
                obtain ⟨j, a, va, rfl, HI⟩ := hrel
                have hj := HI.le
                have g2 := HI.c2
                have hiz := HI.hz
                have hib := HI.bel
                have HII := Lib.hid HI
                clear HI d2 df2 df4
                have hbr3 : b < wr.heap.size := by omega
                have p2 : wr.cell? ⟨b, o + k * 5 + 2, none⟩ = some (.slice A2 n.attrs.length c2) := (hib.cell (p := ⟨b, o + k * 5 + 2, none⟩) hbr).trans ((HB0.out.cell (p := ⟨b, o + k * 5 + 2, none⟩) hbr).trans q2)
                have p4 : wr.cell? ⟨b, o + k * 5 + 4, none⟩ = some vk := (hib.cell (p := ⟨b, o + k * 5 + 4, none⟩) hbr).trans ((HB0.out.cell (p := ⟨b, o + k * 5 + 4, none⟩) hbr).trans q4)
                by_cases hin : j < n.attrs.length
                · obtain ⟨b2, o2, c2', hv2, _, hSb2, hac⟩ := HAT.out.at_.at_ (by omega)
                  injection hv2 with hA2 _ hcc2
                  subst hA2
                  subst hcc2
                  obtain ⟨x, hx⟩ : ∃ x, n.attrs[j]? = some x := ⟨_, List.getElem?_eq_getElem hin⟩
                  have hbw2 : b2 < w.heap.size := HS.out b2 hSb2
                  have hbw3 : b2 < wo.heap.size := by omega
                  have k0 : wr.cell? ⟨b2, o2 + j * 2, none⟩ = some (.string x.1) := (hib.cell (p := ⟨b2, o2 + j * 2, none⟩) hbw3).trans ((HB0.out.cell (p := ⟨b2, o2 + j * 2, none⟩) hbw3).trans ((hbel.cell (p := ⟨b2, o2 + j * 2, none⟩) hbw2).trans (hac j x hx).1))
                  have k1 : wr.cell? ⟨b2, o2 + j * 2 + 1, none⟩ = some (.string x.2) := (hib.cell (p := ⟨b2, o2 + j * 2 + 1, none⟩) hbw3).trans ((HB0.out.cell (p := ⟨b2, o2 + j * 2 + 1, none⟩) hbw3).trans ((hbel.cell (p := ⟨b2, o2 + j * 2 + 1, none⟩) hbw2).trans (hac j x hx).2))
                  have hxs := szA_at hx
                  have hxn : x.1.size ≤ 100000 ∧ x.2.size ≤ 100000 := by have := HNE.out; omega
                  obtain ⟨hxn1, hxn2⟩ := hxn
                  have HX := Lib.hid hx
                  clear hac hx
                  have nn0 := World.new_ne wr ⟨b, o + k * 5 + 2, none⟩ p2
                  have nn1 := World.new_ne wr ⟨b2, o2 + j * 2, none⟩ k0
                  have nn2 := World.new_ne wr ⟨b2, o2 + j * 2 + 1, none⟩ k1
                  go_upto_region 15 with fail
                  go_cut [7] (fun s7 wx => RegEnd wr x s7 wx)
                  case first =>
                    have MKS := Lib.hid fun (W : World) (hb : Below wr.heap.size wr W) => (⟨cell_keep hb p2, cell_keep hb k0, cell_keep hb k1, hb⟩ : W.cell? ⟨b, o + k * 5 + 2, none⟩ = some (.slice (some ⟨b2, o2, none⟩) n.attrs.length c2) ∧ W.cell? ⟨b2, o2 + j * 2, none⟩ = some (.string x.1) ∧ W.cell? ⟨b2, o2 + j * 2 + 1, none⟩ = some (.string x.2) ∧ Below wr.heap.size wr W)
                    have SB := Lib.hid fun (W : World) (h : W.cell? ⟨b, o + k * 5 + 2, none⟩ = some (.slice (some ⟨b2, o2, none⟩) n.attrs.length c2) ∧ W.cell? ⟨b2, o2 + j * 2, none⟩ = some (.string x.1) ∧ W.cell? ⟨b2, o2 + j * 2 + 1, none⟩ = some (.string x.2) ∧ Below wr.heap.size wr W) => h.2.2.2
                    rw [show (Op.convert 9 36 (.tmp 81) : Op) = cvOp from rfl]
                    go_region_held3 (fun W => W.cell? ⟨b, o + k * 5 + 2, none⟩ = some (.slice (some ⟨b2, o2, none⟩) n.attrs.length c2) ∧ W.cell? ⟨b2, o2 + j * 2, none⟩ = some (.string x.1) ∧ W.cell? ⟨b2, o2 + j * 2 + 1, none⟩ = some (.string x.2) ∧ Below wr.heap.size wr W)
                      (first
                        | exact MKS.out _ (Below.refl _ _).drew
                        | (refine MKS.out _ (below_after (SB.out _ ?_) hba); assumption)
                        | (refine MKS.out _ (below_after (SB.out _ ?_) hbb); assumption)
                        | (refine MKS.out _ (below_after (SB.out _ ?_) (below_new _ _)); assumption)
                        | (refine MKS.out _ (below_after (SB.out _ ?_) (alloc_drew_below _ _)); assumption)
                        | (refine MKS.out _ (below_after (SB.out _ ?_) (below_n1 _ _)); assumption)
                        | (refine MKS.out _ (below_after (SB.out _ ?_) (below_n2 _ _)); assumption)
                        | (refine MKS.out _ (below_after (SB.out _ ?_) (below_c2 _ _)); assumption)
                        | (refine MKS.out _ (below_swap (o := ?_) (SB.out _ ?_) ?_); rotate_left; assumption; ((try simp); omega))
                        | (refine MKS.out _ (Below.setCell (Below.setCell (SB.out _ (by assumption)) (by first | omega | (simp; done) | (simp; omega)) _) (by first | omega | (simp; done) | (simp; omega)) _)))
                      (first
                        | (go_at_call 34; refine (attribute_eq x.1 _ hxn1).mono ?_; rintro e w' ⟨ta, rfl, hta, htaz, hba⟩; have hza := hba.size; (try simp at hza); obtain ⟨hca, hfa⟩ := bcell hba; (try have hga : wr.heap.size < w'.heap.size := by omega); (try have hgb : wr.heap.size + 1 < w'.heap.size := by omega))
                        | (go_at_call 18; refine (rightS_any _ _ x.2 _ (sits_at (by simp)) (grownCap_ge _ _ _ _) (by omega)).mono ?_; rintro e w' ⟨ub, rfl, hub, hubz, hbb⟩; have hzb := hbb.size; (try simp at hzb); obtain ⟨hcb, hfb⟩ := bcell hbb)
                        | (go_at_call 18; refine (rightS_any _ _ x.2 _ (sits_step (sits_at (by simp)) (below_n1 _ _)) (grownCap_ge _ _ _ _) (by omega)).mono ?_; rintro e w' ⟨ub, rfl, hub, hubz, hbb⟩; have hzb := hbb.size; (try simp at hzb); obtain ⟨hcb, hfb⟩ := bcell hbb)
                        | (go_at_call 18; refine (rightS_any _ _ x.2 _ (sits_step (sits_at2 (by simp)) hba) (grownCap_ge _ _ _ _) (by omega)).mono ?_; rintro e w' ⟨ub, rfl, hub, hubz, hbb⟩; have hzb := hbb.size; (try simp at hzb); obtain ⟨hcb, hfb⟩ := bcell hbb)
                        | (go_at_call 18; refine (rightS_any _ _ x.2 _ (sits_step (sits_step (sits_at2 (by simp)) hba) (below_new _ _)) (grownCap_ge _ _ _ _) (by omega)).mono ?_; rintro e w' ⟨ub, rfl, hub, hubz, hbb⟩; have hzb := hbb.size; (try simp at hzb); obtain ⟨hcb, hfb⟩ := bcell hbb)
                        | (go_at_call 18; refine (rightS_any _ _ x.2 _ (sits_step (sits_step (sits_at2 (by simp)) (below_n2 _ _)) hba) (grownCap_ge _ _ _ _) (by omega)).mono ?_; rintro e w' ⟨ub, rfl, hub, hubz, hbb⟩; have hzb := hbb.size; (try simp at hzb); obtain ⟨hcb, hfb⟩ := bcell hbb))
                    all_goals go_wp2_with fail
                    all_goals go_meet
                    all_goals first
                      | exact regEnd_alloc (by omega) hta hub htaz hubz (SB.out _ (by assumption))
                      | exact regEnd_set (by first | omega | (simp; done) | (simp; omega)) (by first | (rw [hcb _ _ (by first | omega | (simp; done) | (simp; omega))]; simp; done) | (rw [hcb _ _ (by first | omega | (simp; done) | (simp; omega))]; rw [World.cell?_drew, World.cell?_alloc_past _ _ _ (by omega), hca _ _ (by first | omega | (simp; done) | (simp; omega))]; simp; done) | (rw [hcb _ _ (by first | omega | (simp; done) | (simp; omega)), hca _ _ (by first | omega | (simp; done) | (simp; omega))]; simp; done) | (rw [hcb _ _ (by first | omega | (simp; done) | (simp; omega)), hca _ _ (by first | omega | (simp; done) | (simp; omega))]; rfl)) (by first | (rw [hcb _ _ (by first | omega | (simp; done) | (simp; omega))]; simp; done) | (rw [hcb _ _ (by first | omega | (simp; done) | (simp; omega))]; rw [World.cell?_drew, World.cell?_alloc_past _ _ _ (by omega), hca _ _ (by first | omega | (simp; done) | (simp; omega))]; simp; done) | (rw [hcb _ _ (by first | omega | (simp; done) | (simp; omega)), hca _ _ (by first | omega | (simp; done) | (simp; omega))]; simp; done) | (rw [hcb _ _ (by first | omega | (simp; done) | (simp; omega)), hca _ _ (by first | omega | (simp; done) | (simp; omega))]; rfl)) hta hub htaz hubz (SB.out _ (by assumption))
                  case rest =>
                    obtain ⟨g, t2, u2, rfl, hg, cg0, cg1, hat2, hub2, htz2, huz2, hbc⟩ := hcut
                    have hBw : wo.heap.size < wr.heap.size := by omega
                    have hBc : wo.heap.size < wc.heap.size := by have := hbc.size; omega
                    have r0 : wc.cell? ⟨wo.heap.size, 0, none⟩ = some (.int .i64 1) := (hbc.cell (p := ⟨wo.heap.size, 0, none⟩) hBw).trans ((HII.out.ci 0 (by omega)).trans HD.out.1)
                    have r1 : wc.cell? ⟨wo.heap.size, 1, none⟩ = some (.string t) := (hbc.cell (p := ⟨wo.heap.size, 1, none⟩) hBw).trans ((HII.out.ci 1 (by omega)).trans HD.out.2.1)
                    have r2 : wc.cell? ⟨wo.heap.size, 2, none⟩ = some va := (hbc.cell (p := ⟨wo.heap.size, 2, none⟩) hBw).trans HII.out.c2
                    have r3 : wc.cell? ⟨wo.heap.size, 3, none⟩ = some (.string ⟨#[]⟩) := (hbc.cell (p := ⟨wo.heap.size, 3, none⟩) hBw).trans ((HII.out.ci 3 (by omega)).trans HD.out.2.2.2.1)
                    have r4 : wc.cell? ⟨wo.heap.size, 4, none⟩ = some (.slice none 0 0) := (hbc.cell (p := ⟨wo.heap.size, 4, none⟩) hBw).trans ((HII.out.ci 4 (by omega)).trans HD.out.2.2.2.2)
                    have hatA : AttrsAt (· < wc.heap.size) wc a va := ((own_attrs HII.out.own).keep (fun b hb i => hbc.cell (p := ⟨b, i, none⟩) (HII.out.own.lt b hb).2)).mono fun b hb => Nat.lt_of_lt_of_le (HII.out.own.lt b hb).2 hbc.size
                    have haz : szA a ≤ 400000 := by
                      have h1 := HII.out.sz
                      have h2 : szA (n.attrs.take j) ≤ szA n.attrs := by
                        have : szA n.attrs = szA (n.attrs.take j) + szA (n.attrs.drop j) := by rw [← szA_append, List.take_append_drop]
                        omega
                      have := HNE.out
                      omega
                    have hjl : n.attrs.length ≤ 100000 := by have h1 := szA_len n.attrs; have := HNE.out; omega
                    obtain ⟨Aa, ca, rfl, hca⟩ := id hatA
                    have hval := valueR_any (· < wc.heap.size) 1 t ⟨#[]⟩ a (.slice Aa a.length ca) (.slice none 0 0) t2 wc hatA (fun b hb => hb) (by omega)
                    have HVAL := Lib.hid hval
                    have HAT2 := Lib.hid (And.intro hat2 (And.intro hub2 (And.intro htz2 huz2)))
                    have HBC := Lib.hid hbc
                    clear hatA hval hat2 hub2 htz2 huz2 nn0 nn1 nn2 p2 p4 k0 k1 hbc g2
                    obtain ⟨q, hq⟩ : ∃ q, (valA a t2).isSome = q := ⟨_, rfl⟩
                    rw [hq] at HVAL
                    have HQ := Lib.hid hq
                    clear hq
                    cases q with
                    | true =>
                      go_wp2_with fail
                      refine HVAL.out.mono ?_
                      rintro e w3 ⟨rfl, hb3⟩
                      have hbw3 := below_after HBC.out hb3
                      go_wp2_with fail
                      go_roundw
                      case rel => exact ⟨j + 1, a, _, by go_num, HII.out.skip HX.out hbw3 hz02⟩
                      case measure => simp [intOf]; omega
                    | false =>
                      go_wp2_with fail
                      refine HVAL.out.mono ?_
                      rintro e w3 ⟨rfl, hb3⟩
                      have hbw3 := below_after HBC.out hb3
                      have hB3 : wo.heap.size < w3.heap.size := Nat.lt_of_lt_of_le hBc hb3.size
                      have s2 : w3.cell? ⟨wo.heap.size, 2, none⟩ = some (.slice Aa a.length ca) := (hb3.cell (p := ⟨wo.heap.size, 2, none⟩) hBc).trans r2
                      have hgc : g < wc.heap.size := World.block_lt_of_cell? wc ⟨g, 0, none⟩ cg0
                      have e0 : w3.cell? ⟨g, 0, none⟩ = some (.string t2) := (hb3.cell (p := ⟨g, 0, none⟩) hgc).trans cg0
                      have e1 : w3.cell? ⟨g, 1, none⟩ = some (.string u2) := (hb3.cell (p := ⟨g, 1, none⟩) hgc).trans cg1
                      have f3 : w3.frozen? ⟨wo.heap.size, 2, none⟩ = false := (hbw3.frozen (p := ⟨wo.heap.size, 2, none⟩) hBw).trans HII.out.fr
                      have hal : a.length ≤ 100000 := by have := szA_len a; omega
                      have hwz3 : W0.heap.size ≤ w3.heap.size + 1 := by have := hbw3.size; omega
                      have HOW := Lib.hid (fun ob => own_below (own_below HII.out.own hbw3) (below_new w3 ob))
                      have HG5 := Lib.hid (fun (w5 : World) (ob : Obj) (hg : (w3.alloc ob).grownBy w5 (Value.slice Aa a.length ca).ownBlock) => far_two (B := wo.heap.size) hg HII.out.own hz02 (by simp; omega))
                      obtain ⟨i0, hi, hz0, hz1, hz2⟩ := info_parts info_attr
                      go_wp2_with (at_builtin; refine wpList_append_own _ rfl _ _ 26 rfl W0.heap.size 40 i0 _ 2 32 Try.underlying26 hi hz0 hz1 hz2 rfl (by decide) _ _ _ rfl (HOW.out _) ⟨w3.heap.size, 0, none⟩ 1 1 (acells [(t2, u2)]) rfl rfl (new_two w3 _ _ _) (acells_one _) (by unfold maxLen; omega) (by omega) (by simpa using hwz3) ?_; intro v' w5 hown' hgrow _; obtain ⟨A5, c5, rfl, _⟩ := own_size hown'; obtain ⟨hc5, hf5⟩ := HG5.out w5 _ hgrow; have s5 := (hc5 2).trans ((World.cell?_alloc_past _ _ _ hB3).trans s2); have f5 := (hf5 2).trans ((World.frozen?_alloc_past _ _ _ hB3).trans f3))
                      go_roundw
                      case rel => exact ⟨j + 1, a ++ [(t2, u2)], _, by go_num, HII.out.more HX.out (below_after hbw3 (below_new w3 _)) hz02 hown' hgrow HAT2.out.1 HAT2.out.2.1 HAT2.out.2.2.1 HAT2.out.2.2.2 (Option.isNone_iff_eq_none.1 (by rw [← Option.not_isSome, HQ.out]; rfl))⟩
                      case measure => simp [intOf]; omega
                · have hjn : j = n.attrs.length := by omega
                  have htake : n.attrs.take j = n.attrs := List.take_of_length_le (by omega)
                  have hsza : szA a ≤ 4 * szA n.attrs := by have := HII.out.sz; rwa [htake] at this
                  have hbw : Below w.heap.size w wr := hbel.trans ((HB0.out.trans hib).mono hwz)
                  have hgd := IH.out k n HN.out S vk wr (HAT.out.kids.keep (Kept.belowB hbw HS.out)) (fun b hb => Nat.lt_of_lt_of_le (HS.out b hb) hbw.size) (by have := szL_kids HN.out; omega)
                  have HGD := Lib.hid hgd
                  have hBw : wo.heap.size < wr.heap.size := by omega
                  have r0 : wr.cell? ⟨wo.heap.size, 0, none⟩ = some (.int .i64 1) := (HII.out.ci 0 (by omega)).trans HD.out.1
                  have r1 : wr.cell? ⟨wo.heap.size, 1, none⟩ = some (.string t) := (HII.out.ci 1 (by omega)).trans HD.out.2.1
                  have r3 : wr.cell? ⟨wo.heap.size, 3, none⟩ = some (.string ⟨#[]⟩) := (HII.out.ci 3 (by omega)).trans HD.out.2.2.2.1
                  have r4 : wr.cell? ⟨wo.heap.size, 4, none⟩ = some (.slice none 0 0) := (HII.out.ci 4 (by omega)).trans HD.out.2.2.2.2
                  have HR := Lib.hid (And.intro r0 (And.intro r1 (And.intro g2 (And.intro r3 r4))))
                  obtain ⟨A6, c6, rfl, hc6⟩ := OwnT.shape hown
                  obtain ⟨Aa, ca, rfl, hca⟩ := own_size HII.out.own
                  have HOWN := Lib.hid hown
                  have HJN := Lib.hid (And.intro hjn htake)
                  have HSA := Lib.hid hsza
                  have hjl : n.attrs.length ≤ 100000 := by have h1 := szA_len n.attrs; have := HNE.out; omega
                  clear hgd r0 r1 r3 r4 g2 hown hjn htake hsza
                  go_wp2_with fail
                  refine HGD.out.mono ?_
                  rintro e w7 ⟨G, vG, rfl, hG, hGz, hGok, hb7, hkp7⟩
                  have HKG := Lib.hid hkp7
                  clear hkp7
                  obtain ⟨A7, c7, rfl, hc7⟩ := OwnT.shape hG
                  have hbB : wo.heap.size < w7.heap.size := Nat.lt_of_lt_of_le hBw hb7.size
                  obtain ⟨hbelF, hkF⟩ := good_kept HOWN.out hbel HB0.out hz02 HII.out hb7 hG
                  have y0 : w7.cell? ⟨wo.heap.size, 0, none⟩ = some (.int .i64 1) := (hb7.cell (p := ⟨wo.heap.size, 0, none⟩) hBw).trans HR.out.1
                  have y1 : w7.cell? ⟨wo.heap.size, 1, none⟩ = some (.string t) := (hb7.cell (p := ⟨wo.heap.size, 1, none⟩) hBw).trans HR.out.2.1
                  have y2 : w7.cell? ⟨wo.heap.size, 2, none⟩ = some (.slice Aa a.length ca) := (hb7.cell (p := ⟨wo.heap.size, 2, none⟩) hBw).trans HR.out.2.2.1
                  have y3 : w7.cell? ⟨wo.heap.size, 3, none⟩ = some (.string ⟨#[]⟩) := (hb7.cell (p := ⟨wo.heap.size, 3, none⟩) hBw).trans HR.out.2.2.2.1
                  have y4 : w7.cell? ⟨wo.heap.size, 4, none⟩ = some (.slice none 0 0) := (hb7.cell (p := ⟨wo.heap.size, 4, none⟩) hBw).trans HR.out.2.2.2.2
                  have f4 : w7.frozen? ⟨wo.heap.size, 4, none⟩ = false := (hb7.frozen (p := ⟨wo.heap.size, 4, none⟩) hBw).trans HII.out.fr4
                  have HKF := Lib.hid hkF
                  have HGG := Lib.hid (And.intro hGz hGok)
                  have HLO := Lib.hid (OwnT.lt HOWN.out)
                  have hwr7 : w.heap.size ≤ w7.heap.size + 1 := by have := hb7.size; have := hwz; omega
                  have hn5 : ∀ i u, (ncells1 ⟨.mk 1 t a ⟨#[]⟩ G, .slice Aa a.length ca, .slice A7 G.length c7⟩)[i]? = some u →
                      ((w7.setCell ⟨wo.heap.size, 4, none⟩ (.slice A7 G.length c7)).alloc (.cells #[.int .i64 1, .string t, .slice Aa a.length ca, .string ⟨#[]⟩, .slice A7 G.length c7] 28)).cell? ((⟨w7.heap.size, 0, none⟩ : Addr).add i) = some u := by
                    intro i u hi
                    have := new_five (w7.setCell ⟨wo.heap.size, 4, none⟩ (.slice A7 G.length c7)) 28 ⟨.mk 1 t a ⟨#[]⟩ G, .slice Aa a.length ca, .slice A7 G.length c7⟩ i u hi
                    rw [show (w7.setCell ⟨wo.heap.size, 4, none⟩ (.slice A7 G.length c7)).heap.size = w7.heap.size by simp] at this
                    exact this
                  have HN5 := Lib.hid hn5
                  clear hkF hGz hGok hn5 hG
                  go_wp2_with (at_builtin; refine wpList_append_node rfl _ _ rfl w.heap.size w.heap.size out (.slice A6 out.length c6) rfl (HKF.out _).1 ⟨.mk 1 t a ⟨#[]⟩ G, .slice Aa a.length ca, .slice A7 G.length c7⟩ ⟨w7.heap.size, 0, none⟩ 1 rfl HN5.out (HKF.out _).2.1 (HKF.out _).2.2 (by omega) (by simpa using hwr7) ?_; intro v' w8 hown' hgrow)
                  have hB8 : Below w.heap.size w w8 := (hbelF.alloc hbelF.size _).grown hgrow (by simpa using hwr7) (fun g hg => (HLO.out g hg).1)
                  clear hgrow
                  go_roundw
                  case rel =>
                    refine ⟨k + 1, out ++ [.mk 1 t a ⟨#[]⟩ G], by go_num, by omega, hown', ?_, preOK_snoc (n := .mk 1 t a ⟨#[]⟩ G) HOK.out (.inl ⟨rfl, HTN.out, rfl, HII.out.ok⟩) HGG.out.2, hB8, HKP.out.snocE HN.out HKD.out HTE.out HKG.out HII.out.nm⟩
                    rw [szL_append, szL_cons, szL_nil, szN_mk, HST.out, HNE.out]
                    have := HGG.out.1
                    have := HSA.out
                    have hz0 : (⟨#[]⟩ : ByteArray).size = 0 := rfl
                    omega
                  case measure => simp [intOf]; omega
      · have hex : (l.length : Int) ≤ (k : Int) := by omega
        have hlk : l.take k = l := List.take_of_length_le (by omega)
        rw [hlk] at hsz
        have ht := OwnC.tree hown (Nat.le_refl _)
        have hmg := merge_sz out
        have HG := Lib.hid (merge_good hok)
        have HTR := Lib.hid ht
        clear ht hown hok hlk
        go_wp2_with fail
        refine (mergeR_any w.heap.size out _ wr HTR.out (by omega)).mono ?_
        rintro e w1 ⟨v', rfl, hown', hb'⟩
        have hB := below_after hbel hb'
        go_wp2_with fail
        go_ret
        refine ⟨mergeB out, v', rfl, ?_, by omega, HG.out, hB, HKP.out.merge⟩
        obtain ⟨R, h1, h2, h3⟩ := hown'
        exact ⟨R, h1, own_more h2 hbel.size, h3⟩

end Go.Proofs.Ytialfafjoemppaa

/- Part Good. -/
namespace Go.Proofs.Ytialfafjoemppaa
open Go.RowKit
set_option linter.unusedVariables false

theorem OwnC.lower {w : World} {base lo base' lo' : Nat} {l : List Nd} {v : Value} (h : OwnC w base lo l v) (hb : base' ≤ base) (hl : lo' ≤ lo) : OwnC w base' lo' l v := by
  obtain ⟨R, h1, h2, h3, h4, _⟩ := h
  exact ⟨R, h1, own_more h2 hb, fun r hr => (h3 r hr).mono fun b hb => ⟨Nat.le_trans hl hb.1, hb.2⟩, fun r hr => (h4 r hr).mono fun b hb => ⟨Nat.le_trans hl hb.1, hb.2⟩, fun g hg hs => hs.2.2 hg⟩

/-- What Good tells: nodes that may be, of the call's own, of a bounded size. -/
def GoodEnd (w : World) (e : Ending) (w' : World) : Prop :=
  ∃ (G : List Nd) (v : Value), e = .returned v ∧ OwnC w' w.heap.size w.heap.size G v ∧ GoodL G ∧ szL G ≤ 67200 ∧ Below w.heap.size w w'

/-- .. and it keeps the shape of a list of plain elements. -/
def GoodEndK (w : World) (l : List Nd) (e : Ending) (w' : World) : Prop :=
  ∃ (G : List Nd) (v : Value), e = .returned v ∧ OwnC w' w.heap.size w.heap.size G v ∧ GoodL G ∧ szL G ≤ 67200 ∧ Below w.heap.size w w' ∧ Kp l G

theorem Kp.trans {a b c : List Nd} (h : Kp a b) (h2 : Kp b c) : Kp a c := ⟨fun x => h2.1 (h.1 x), fun x => h2.2 (h.2 x)⟩

theorem goodK_any (l : List Nd) (v : Value) (w : World) (hT : Tree (· < w.heap.size) w l v) (hF : Fine l) : Calls Try.prog 7 #[v] w (GoodEndK w l) := by
  have hf := Lib.hid (few_any l v w hT hF)
  clear hT hF
  go_enter Try.func7, Try.ntmps7
  go_wp2_with fail
  refine hf.out.mono ?_
  rintro e w1 ⟨out, v1, rfl, hown, hsz, hb1, hkp1⟩
  have ht := hown.tree (Nat.le_refl _)
  have HG := Lib.hid (good_any out (fun b => w.heap.size ≤ b ∧ b < w1.heap.size) v1 w1 ht (fun b hb => hb.2) (by omega))
  clear ht hown
  go_wp2_with fail
  refine HG.out.mono ?_
  rintro e w2 ⟨G, v2, rfl, hG, hGz, hGok, hb2, hkp2⟩
  have hB2 := below_after hb1 hb2
  go_wp2_with fail
  go_ret
  exact ⟨G, v2, rfl, hG.lower hb1.size hb1.size, hGok, by omega, hB2, hkp1.trans hkp2⟩

theorem goodR_any (l : List Nd) (v : Value) (w : World) (hT : Tree (· < w.heap.size) w l v) (hF : Fine l) : Calls Try.prog 7 #[v] w (GoodEnd w) := by
  refine (goodK_any l v w hT hF).mono ?_
  rintro e w' ⟨G, v2, rfl, h1, h2, h3, h4, _⟩
  exact ⟨G, v2, rfl, h1, h2, h3, h4⟩

end Go.Proofs.Ytialfafjoemppaa

/- Part Lw5W. -/
namespace Go.Proofs.Ytialfafjoemppaa
open Go.RowKit
set_option linter.unusedVariables false

theorem info_token : (Try.prog.info? 31).map (fun i => (i.zero, i.size, i.bytes)) = some (some (.agg #[.int .i64 0, .string ⟨#[]⟩, .slice none 0 0, .string ⟨#[]⟩]), 4, 64) := by kernel_rfl

theorem emp_here {S : Nat → Prop} {W : World} {k : Nat} {n : Nd} {va : Value} {t : TypeId} (h : W.heap[k]? = some (.cells #[.int .i64 n.kind, .string n.name, va, .string n.text, .slice none 0 0] t (0, 0))) (hS : S k) (ha : AttrsAt S W n.attrs va) :
    Tree S W [emptied n] (.slice (some ⟨k, 0, none⟩) 1 1) :=
  .mk [⟨emptied n, va, .slice none 0 0⟩] _ _ 1 rfl (Nat.le_refl _) (cells_here h hS _ rfl) (fun r hr => by simp at hr; subst hr; exact ha) (fun r hr => by simp at hr; subst hr; exact Tree.nil _ _)

theorem box_below' {W W' : World} {k : Nat} {cs : Array Value} {t : TypeId} (h : W.heap[k]? = some (.cells cs t (0, 0))) (hb : Below W.heap.size W W') : W'.heap[k]? = some (.cells cs t (0, 0)) :=
  (hb.block k (Array.getElem?_eq_some_iff.1 h).1).trans h
theorem news_here {W : World} {k : Nat} {cs : Array Value} {t : TypeId} (h : W.heap[k]? = some (.cells cs t (0, 0))) (xs : List Value) (hx : cs.toList = xs) : ∀ j u, xs[j]? = some u → W.cell? ((⟨k, 0, none⟩ : Addr).add j) = some u := by
  intro j u hj
  rw [add_zero_addr, cell_at h j, ← hj, ← hx]
  simp

theorem cat_l (a b : ByteArray) : (a ++ b).data.toList = a.data.toList ++ b.data.toList := by simp

structure TwAt (w1 wr : World) (g : List Nd) (s : ByteArray) (v : Value) (k : Nat) : Prop where
  le : k ≤ g.length
  is : s.data.toList = txtL false (((g.take k).filter plainE).map emptied)
  own : ∃ R : List (Tk × Value), R.map (·.1) = ((g.take k).filter plainE).flatMap bareTags ∧ wr.ownsRow w1.heap.size 31 4 v R.length (tcells R) ∧ ∀ r ∈ R, AttrsAt (· < w1.heap.size) w1 r.1.attrs r.2
  bel : Below w1.heap.size w1 wr
def TwRel (w1 : World) (g : List Nd) (x y i : Value) (wr : World) : Prop := ∃ (k : Nat) (s : ByteArray), x = .string s ∧ i = .int .i64 k ∧ TwAt w1 wr g s y k

theorem filt_at {g : List Nd} {k : Nat} {n : Nd} (h : g[k]? = some n) : (g.take (k + 1)).filter plainE = (g.take k).filter plainE ++ (if plainE n = true then [n] else []) := by
  rw [List.take_add_one, h, List.filter_append]
  simp only [Option.toList_some, List.filter_cons, List.filter_nil]
theorem TwAt.skip {w1 wr : World} {g : List Nd} {s : ByteArray} {v : Value} {k : Nat} {n : Nd} (h : TwAt w1 wr g s v k) (hn : g[k]? = some n) (hp : plainE n = false) : TwAt w1 wr g s v (k + 1) := by
  have e : (g.take (k + 1)).filter plainE = (g.take k).filter plainE := by rw [filt_at hn, hp]; simp
  exact ⟨(List.getElem?_eq_some_iff.1 hn).1, by rw [e]; exact h.is, by rw [e]; exact h.own, h.bel⟩
theorem filt_len (g : List Nd) (k : Nat) : szL (((g.take k).filter plainE).map emptied) ≤ szL g := by
  have key : ∀ l : List Nd, szL ((l.filter plainE).map emptied) ≤ szL l := by
    intro l
    induction l with
    | nil => simp [szL]
    | cons n l ih =>
      rw [List.filter_cons]
      split
      · rw [List.map_cons, szL_cons, szL_cons]
        have e1 := szN_eq n
        have e2 := szN_mk n.kind n.name n.attrs n.text []
        have : szN (emptied n) = szN (.mk n.kind n.name n.attrs n.text []) := rfl
        rw [szL_nil] at e2
        omega
      · rw [szL_cons]; omega
  have h1 := key (g.take k)
  have h2 : szL g = szL (g.take k) + szL (g.drop k) := by rw [← szL_append, List.take_append_drop]
  omega
theorem tags_len (g : List Nd) (k : Nat) : (((g.take k).filter plainE).flatMap bareTags).length ≤ 2 * g.length := by
  have h1 : ((g.take k).filter plainE).length ≤ g.length := Nat.le_trans (List.length_filter_le _ _) (by rw [List.length_take]; omega)
  have h2 : ∀ l : List Nd, (l.flatMap bareTags).length = 2 * l.length := by
    intro l
    induction l with
    | nil => rfl
    | cons n l ih => rw [List.flatMap_cons, List.length_append, ih, List.length_cons]; show 2 + _ = _; omega
  rw [h2]
  omega

set_option maxHeartbeats 1000000 in
set_option maxRecDepth 100000 in
theorem tokenWrites_end (HTS : ToksSaid) (l : List Nd) (v : Value) (w : World) (hT : Tree (· < w.heap.size) w l v) (hF : Fine l) (HGB : Glob w) :
    Calls Try.prog 3 #[v] w fun e w' => e = .returned (.bool true) ∧ Below w.heap.size w w' := by
  obtain ⟨i0, hi, hz0, hz1, hz2⟩ := info_parts info_token
  have HG := Lib.hid (goodK_any l v w hT hF)
  obtain ⟨A0, c0, rfl, _⟩ := hT.shape
  clear hT hF
  go_enter Try.func3, Try.ntmps3
  go_wp2_with fail
  refine HG.out.mono ?_
  rintro e w1 ⟨g, vg, rfl, hg, hgok, hgz, hb1, _⟩
  have hTg : Tree (· < w1.heap.size) w1 g vg := (hg.tree (Nat.le_refl _)).mono fun b hb => hb.2
  obtain ⟨A1, c1, rfl, hc1⟩ := hTg.shape
  have hgl : g.length ≤ 6720 := by have := szL_len g; omega
  have HT := Lib.hid hTg
  have HGK := Lib.hid hgok
  clear hg hTg hgok
  go_wp2_with fail
  go_loopw [4, 5, 6, 7, 8, 9] (fun x y i _ _ _ wr => TwRel w1 g x y i wr) (fun _ _ i _ _ _ _ => g.length - (intOf i).toNat)
  case atStart => exact ⟨0, ⟨#[]⟩, rfl, rfl, ⟨by omega, by simp [txtL_nil], ⟨[], rfl, World.ownsRow_nil _ _ _ _, by simp⟩, Below.refl _ _⟩⟩
  case round =>
    obtain ⟨k, s, rfl, rfl, HR⟩ := hrel
    have hk := HR.le
    have hbr := HR.bel
    have HRR := Lib.hid HR
    clear HR
    by_cases hlt : k < g.length
    · obtain ⟨b, o, c', hv, _, hSb, hcell⟩ := HT.out.open_ (by omega)
      injection hv with hA _ hcc
      subst hA
      subst hcc
      obtain ⟨n, hn⟩ : ∃ n, g[k]? = some n := ⟨_, List.getElem?_eq_getElem hlt⟩
      obtain ⟨va, vk, hat⟩ := hcell k n hn
      have hszn := szL_at hn
      rw [szN_eq] at hszn
      obtain ⟨A3, c3, rfl, _, _⟩ := id hat.at_
      obtain ⟨A4, c4, rfl, _⟩ := hat.kids.shape
      have q0 : wr.cell? ⟨b, o + k * 5, none⟩ = some (.int .i64 n.kind) := (hbr.cell (p := ⟨b, o + k * 5, none⟩) hSb).trans hat.c0
      have q1 : wr.cell? ⟨b, o + k * 5 + 1, none⟩ = some (.string n.name) := (hbr.cell (p := ⟨b, o + k * 5 + 1, none⟩) hSb).trans hat.c1
      have q2 : wr.cell? ⟨b, o + k * 5 + 2, none⟩ = some (.slice A3 n.attrs.length c3) := (hbr.cell (p := ⟨b, o + k * 5 + 2, none⟩) hSb).trans hat.c2
      have q3 : wr.cell? ⟨b, o + k * 5 + 3, none⟩ = some (.string n.text) := (hbr.cell (p := ⟨b, o + k * 5 + 3, none⟩) hSb).trans hat.c3
      have q4 : wr.cell? ⟨b, o + k * 5 + 4, none⟩ = some (.slice A4 n.kids.length c4) := (hbr.cell (p := ⟨b, o + k * 5 + 4, none⟩) hSb).trans hat.c4
      have i1 : (k : Int) < (g.length : Int) := by omega
      have i2 : (0 : Int) ≤ (k : Int) := by omega
      have HA := Lib.hid hat.at_
      have HV := Lib.hid (fun W => voidR_any n.name W)
      have HRW := Lib.hid (fun W => rawR_any n.name W)
      obtain ⟨vd, hvd⟩ : ∃ v, voidB n.name.data.toList = v := ⟨_, rfl⟩
      obtain ⟨rw_, hrw⟩ : ∃ v, rawB n.name.data.toList = v := ⟨_, rfl⟩
      have hpl : plainE n = (decide (n.kind = 1) && !rw_ && !vd) := by unfold plainE; rw [hvd, hrw]
      rw [hvd] at HV
      rw [hrw] at HRW
      have HPL := Lib.hid hpl
      have HN := Lib.hid hn
      have hs4 : s.size ≤ 1000000 := by
        have h1 := HRR.out.is
        have h2 : s.data.toList.length = s.size := by simp
        have h3 := txt_len (((g.take k).filter plainE).map emptied) false
        have h4 := filt_len g k
        rw [h1] at h2
        omega
      clear hcell hn hat hvd hrw hpl
      go_wp2_with fail
      refine (HRW.out _).mono ?_
      rintro e w2 ⟨rfl, rfl⟩
      go_wp2_with fail
      refine (HV.out _).mono ?_
      rintro e w2 ⟨rfl, rfl⟩
      by_cases h1 : n.kind = 1
      · have B1 : (n.kind != 1) = false := by simp [h1]
        have H1 := Lib.hid h1
        clear h1
        cases rw_ with
        | true =>
          have HP := Lib.hid (show plainE n = false by rw [HPL.out]; simp)
          go_wp2_with fail
          go_roundw
          case rel => exact ⟨k + 1, s, rfl, by go_num, HRR.out.skip HN.out HP.out⟩
          case measure => simp [intOf]; omega
        | false =>
          cases vd with
          | true =>
            have HP := Lib.hid (show plainE n = false by rw [HPL.out]; simp)
            go_wp2_with fail
            go_roundw
            case rel => exact ⟨k + 1, s, rfl, by go_num, HRR.out.skip HN.out HP.out⟩
            case measure => simp [intOf]; omega
          | false =>
            have HP := Lib.hid (show plainE n = true by rw [HPL.out, H1.out]; rfl)
            obtain ⟨W2, hW2⟩ : ∃ W2, (wr.alloc (.cells #[.int .i64 n.kind, .string n.name, .slice A3 n.attrs.length c3, .string n.text, .slice none 0 0] 28)).alloc (.cells #[.int .i64 n.kind, .string n.name, .slice A3 n.attrs.length c3, .string n.text, .slice none 0 0] 28) = W2 := ⟨_, rfl⟩
            have hbW : Below wr.heap.size wr W2 := by rw [← hW2]; exact ((Below.refl _ wr).alloc (Nat.le_refl _) _).alloc (by simp) _
            have hsW : W2.heap.size = wr.heap.size + 2 := by rw [← hW2]; simp
            have hx1 : W2.heap[wr.heap.size]? = some (.cells #[.int .i64 n.kind, .string n.name, .slice A3 n.attrs.length c3, .string n.text, .slice none 0 0] 28 (0, 0)) := by rw [← hW2]; exact alloc_past (alloc_here' rfl)
            have hx2 : W2.heap[wr.heap.size + 1]? = some (.cells #[.int .i64 n.kind, .string n.name, .slice A3 n.attrs.length c3, .string n.text, .slice none 0 0] 28 (0, 0)) := by rw [← hW2]; exact alloc_here' (by simp)
            have hBW := hbr.trans (hbW.mono hbr.size)
            have hTE := emp_here (S := (· < W2.heap.size)) (n := n) hx2 (by omega) ((HA.out.keep (Kept.belowB hBW fun b hb => hb)).mono fun b hb => Nat.lt_of_lt_of_le hb hBW.size)
            have hez : szL [emptied n] ≤ 67200 := by
              rw [szL_cons, szL_nil]
              show szN (.mk n.kind n.name n.attrs n.text []) + 0 ≤ _
              rw [szN_mk, szL_nil]
              omega
            have HTX := Lib.hid (textR4_any (· < W2.heap.size) [emptied n] _ W2 hTE (fun b hb => hb) (by omega))
            have hel := txt_len [emptied n] false
            have HX1 := Lib.hid hx1
            have HW2 := Lib.hid hW2
            have hown2 := own_below HRR.out.own.choose_spec.2.1 hbW
            have HOWN := Lib.hid hown2
            clear hx1 hx2 hTE hown2
            go_wp2_with fail
            clear hW2
            refine HTX.out.mono ?_
            rintro e w3 ⟨u, rfl, hu, hb3⟩
            have hul : u.size ≤ 500000 := by
              have : u.data.toList.length = u.size := by simp
              rw [hu] at this
              omega
            have hx3 := box_below' HX1.out hb3
            have d0 := cell_at hx3 0
            have d1 := cell_at hx3 1
            have d2 := cell_at hx3 2
            have d3 := cell_at hx3 3
            have d4 := cell_at hx3 4
            have hb03 : Below w1.heap.size w1 w3 := hBW.trans (hb3.mono hBW.size)
            have HU := Lib.hid hu
            have hown3 := own_below HOWN.out hb3
            have hRl : HRR.out.own.choose.length ≤ 20000 := by
              have h1 := congrArg List.length HRR.out.own.choose_spec.1
              have h2 := tags_len g k
              rw [List.length_map] at h1
              omega
            have HNW := Lib.hid (fun (W : World) => news_here (box_here W #[.int .i64 1, .string n.name, .slice A3 n.attrs.length c3, .string ⟨#[]⟩, .int .i64 2, .string n.name, .slice none 0 0, .string ⟨#[]⟩] 31)
              (tcells [(tkB n.name.data.toList n.attrs, .slice A3 n.attrs.length c3), (tkE n.name.data.toList, .slice none 0 0)]) (by unfold tcells tcells1 tkB tkE; simp only [tB_of]; rfl))
            have HR3 := Lib.hid HRR.out.own.choose_spec
            obtain ⟨R, hR⟩ : ∃ R, HRR.out.own.choose = R := ⟨_, rfl⟩
            rw [hR] at hown3 hRl HR3
            clear hu hx3 hel hR
            go_wp2_with (at_builtin; refine wpList_append_own _ rfl _ _ 24 rfl w1.heap.size 31 i0 _ 4 64 Try.underlying24 hi hz0 hz1 hz2 rfl (by decide) _ _ _ rfl (hown3.alloc _) ⟨w3.heap.size, 0, none⟩ 2 2 (tcells [(tkB n.name.data.toList n.attrs, .slice A3 n.attrs.length c3), (tkE n.name.data.toList, .slice none 0 0)]) rfl rfl (HNW.out _) (by intro u hu; simp only [tcells, tcells1, List.flatMap_cons, List.flatMap_nil, List.append_nil, List.cons_append, List.nil_append, List.mem_cons, List.not_mem_nil, or_false] at hu; rcases hu with rfl | rfl | rfl | rfl | rfl | rfl | rfl | rfl <;> rfl) (by unfold maxLen; omega) (by omega) (by have := hb03.size; simp; omega) ?_; intro v' w5 hown' hgrow _)
            have hB5 := (hb03.alloc hb03.size _).grown hgrow (by have := hb03.size; simp; omega) (fun g' hg' => (hown3.lt g' hg').1)
            clear hgrow
            go_roundw
            case rel =>
              refine ⟨k + 1, _, rfl, by go_num, by omega, ?_, ⟨R ++ [(tkB n.name.data.toList n.attrs, .slice A3 n.attrs.length c3), (tkE n.name.data.toList, .slice none 0 0)], ?_, ?_, ?_⟩, hB5⟩
              · rw [cat_l, HRR.out.is, HU.out, filt_at HN.out, if_pos HP.out, List.map_append, txtL_append]
                rfl
              · rw [List.map_append, HR3.out.1, filt_at HN.out, if_pos HP.out, List.flatMap_append]
                rfl
              · rw [List.length_append, tcells_append]
                exact hown'
              · intro r hr
                rcases List.mem_append.1 hr with hr | hr
                · exact HR3.out.2.2 r hr
                · simp only [List.mem_cons, List.not_mem_nil, or_false] at hr
                  rcases hr with rfl | rfl
                  · exact HA.out
                  · exact AttrsAt.nil _ _
            case measure => simp [intOf]; omega
      · have B1 : (n.kind != 1) = true := by simp [h1]
        have HP := Lib.hid (show plainE n = false by rw [HPL.out, decide_eq_false h1]; rfl)
        clear h1
        go_wp2_with fail
        go_roundw
        case rel => exact ⟨k + 1, s, rfl, by go_num, HRR.out.skip HN.out HP.out⟩
        case measure => simp [intOf]; omega
    · have hke : k = g.length := by omega
      subst hke
      have his := HRR.out.is
      rw [List.take_length] at his
      obtain ⟨R, hR1, hR2, hR3⟩ := HRR.out.own
      rw [List.take_length] at hR1
      obtain ⟨A5, c5, hva, hc5⟩ := own_size hR2
      subst hva
      have hbg := bare_good HGK.out.nodes
      have htok := tok_bare HGK.out.nodes
      rw [← his] at htok
      have hrt := rt_txt _ hbg.1 false
      rw [← his] at hrt
      have hsl : s.data.toList.length = s.size := by simp
      have hln := txt_len ((g.filter plainE).map emptied) false
      have hfl := filt_len g g.length
      rw [List.take_length] at hfl
      rw [← his] at hln
      have HTT := Lib.hid (HTS s wr (HGB.below (below_after hb1 hbr)) hrt (by omega))
      have HTK := Lib.hid htok
      have hTW : TokAt (· < wr.heap.size) wr ((g.filter plainE).flatMap bareTags) (.slice A5 R.length c5) := by
        refine ⟨R, A5, c5, hR1, by rw [← hR1, List.length_map], by rw [← hR1, List.length_map]; exact hc5, (Cells.own hR2).mono (fun b hb => (hR2.lt b hb).2), fun r hr => ((hR3 r hr).keep (Kept.belowB hbr fun b hb => hb)).mono fun b hb => Nat.lt_of_lt_of_le hb hbr.size⟩
      have HTW := Lib.hid hTW
      have hll : ((g.filter plainE).flatMap bareTags).length ≤ 20000 := by
        have := tags_len g g.length
        rw [List.take_length] at this
        omega
      have hLz : ∀ t ∈ (g.filter plainE).flatMap bareTags, t.attrs.length ≤ 1000000 := by
        intro t ht
        obtain ⟨n, hn, htn⟩ := List.mem_flatMap.1 ht
        obtain ⟨i, hi', he⟩ := List.mem_iff_getElem.1 (List.mem_filter.1 hn).1
        have h1 := szL_at (List.getElem?_eq_some_iff.2 ⟨hi', he⟩)
        rw [szN_eq] at h1
        have h2 := szA_len n.attrs
        unfold bareTags at htn
        simp only [List.mem_cons, List.not_mem_nil, or_false] at htn
        rcases htn with rfl | rfl
        · show n.attrs.length ≤ _; omega
        · exact Nat.zero_le _
      have hB0 := below_after hb1 hbr
      have HLZ := Lib.hid (And.intro hll hLz)
      obtain ⟨L, hL⟩ : ∃ L, (g.filter plainE).flatMap bareTags = L := ⟨_, rfl⟩
      rw [hL] at HTK HTW HLZ
      clear his hR1 hR2 hR3 hbg htok hrt hsl hln hfl hTW hll hLz hL
      go_wp2_with fail
      refine HTT.out.mono ?_
      rintro e w2 ⟨v1, rfl, hT1, hb2⟩
      rw [HTK.out] at hT1
      have hB2 := below_after hB0 hb2
      have HSM := Lib.hid (same5_any (· < w2.heap.size) (· < wr.heap.size) _ _ _ w2 (hT1.mono fun b hb => hb.2) (fun b hb => hb) (HTW.out.stay hb2) (fun b hb => Nat.lt_of_lt_of_le hb hb2.size) (by have := HLZ.out.1; omega) HLZ.out.2)
      obtain ⟨A6, c6, rfl, _⟩ := hT1.shape
      clear hT1 hb2
      go_wp2_with fail
      refine HSM.out.mono ?_
      rintro e w3 ⟨rfl, hb3⟩
      have hB3 := below_after hB2 hb3
      have HL := Lib.hid (lives5_any HTS w3 (HGB.below hB3))
      clear hb3
      go_wp2_with fail
      refine HL.out.mono ?_
      rintro e w4 ⟨rfl, hb4⟩
      go_wp2_with fail
      go_ret
      exact ⟨rfl, below_after hB3 hb4⟩

end Go.Proofs.Ytialfafjoemppaa
