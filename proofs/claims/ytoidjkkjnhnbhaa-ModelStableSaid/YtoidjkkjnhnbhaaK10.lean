/- Parts of the proof, in build order: GoodR Good StdR. -/
import Derived.Test.YtoidjkkjnhnbhaaK09
import Derived.Test.YtoidjkkjnhnbhaaK07
import Derived.Test.YtoidjkkjnhnbhaaK08
import Derived.Deep.RegionHeld3

/- Part GoodR. -/
namespace Go.Proofs.Ytoidjkkjnhnbhaa
open Go.RowKit
set_option linter.unusedVariables false
set_option linter.unusedSimpArgs false

attribute [local go_sem] cvOp

set_option maxHeartbeats 4000000 in
set_option maxRecDepth 100000 in
theorem good_any (l : List Nd) : ∀ (S : Nat → Prop) (v : Value) (w : World), Tree S w l v → (∀ b, S b → b < w.heap.size) → szL l ≤ 100000 →
    Calls Try.prog 22 #[v] w (GdEnd w l) := by
  induction l using nd_ind with
  | h l ih =>
    intro S v w hT hS hsl
    have hlen := szL_len l
    have kb := fun (w : World) (s : ByteArray) => run_bytes_of_string (P := Try.prog) w 9 52 5 s Try.underlying9 Try.underlying52 Try.underlying5
    obtain ⟨A, c, rfl, hc⟩ := hT.shape
    have HT := Lib.hid hT
    have IH := Lib.hid ih
    have HS := Lib.hid hS
    clear hT ih hS
    go_enter Try.func22, Try.ntmps22
    go_wp2_with fail
    go_loopw [3, 4] (fun y z wr => GdRel w l y z wr) (fun _ z _ => l.length - (intOf z).toNat)
    case atStart => exact ⟨0, [], rfl, by omega, OwnC.nil _ _ _, by simp [szL], ⟨by simp, by simp⟩, Below.refl _ _, Kp.nil _⟩
    case round =>
      obtain ⟨k, out, rfl, HR⟩ := hrel
      have hk := HR.le
      have hown := HR.own
      have hsz := HR.sz
      have hok := HR.ok
      have hbel := HR.bel
      have HKP := Lib.hid HR.kp
      clear HR
      have hol := szL_len out
      have htk : szL (l.take k) ≤ szL l := by
        have : szL l = szL (l.take k) + szL (l.drop k) := by rw [← szL_append, List.take_append_drop]
        omega
      by_cases hlt : k < l.length
      · obtain ⟨b, o, c', hv, _, hSb, hcell⟩ := HT.out.open_ (by omega)
        injection hv with hA _ hcc
        subst hA
        subst hcc
        obtain ⟨n, hn⟩ : ∃ n, l[k]? = some n := ⟨_, List.getElem?_eq_getElem hlt⟩
        obtain ⟨va, vk, hat⟩ := hcell k n hn
        have hbw : b < w.heap.size := HS.out b hSb
        have q0 : wr.cell? ⟨b, o + k * 5, none⟩ = some (.int .i64 n.kind) := (hbel.cell (p := ⟨b, o + k * 5, none⟩) hbw).trans hat.c0
        have q1 : wr.cell? ⟨b, o + k * 5 + 1, none⟩ = some (.string n.name) := (hbel.cell (p := ⟨b, o + k * 5 + 1, none⟩) hbw).trans hat.c1
        have q2 : wr.cell? ⟨b, o + k * 5 + 2, none⟩ = some va := (hbel.cell (p := ⟨b, o + k * 5 + 2, none⟩) hbw).trans hat.c2
        have q3 : wr.cell? ⟨b, o + k * 5 + 3, none⟩ = some (.string n.text) := (hbel.cell (p := ⟨b, o + k * 5 + 3, none⟩) hbw).trans hat.c3
        have q4 : wr.cell? ⟨b, o + k * 5 + 4, none⟩ = some vk := (hbel.cell (p := ⟨b, o + k * 5 + 4, none⟩) hbw).trans hat.c4
        have hns := szL_at hn
        have hne := szN_eq n
        have hst := szL_snoc_take hn
        have HST := Lib.hid hst
        have HNE := Lib.hid hne
        have HAT := Lib.hid hat
        have HN := Lib.hid hn
        have HOK := Lib.hid hok
        have hwz := hbel.size
        have hbr : b < wr.heap.size := by omega
        have hns1 : n.text.size ≤ 100000 := by omega
        have hns2 : n.name.size ≤ 100000 := by omega
        clear hcell hn hat hst hne hok
        by_cases hkind : n.kind = 2 ∨ n.kind = 3
        · have B0 : decide (n.kind < 1) = false := by simp; omega
          have B1 : decide (3 < n.kind) = false := by simp; omega
          have B2 : (n.kind != 1) = true := by simp; omega
          have HKD := Lib.hid hkind
          clear hkind
          obtain ⟨tl, htl⟩ : ∃ tl, n.text.data.toList = tl := ⟨_, rfl⟩
          have htz : n.text.size = tl.length := by rw [← htl]; simp
          have HTL := Lib.hid htl
          have HTZ := Lib.hid htz
          clear htl htz
          go_wp2_with fail
          obtain ⟨w1, hw1⟩ : ∃ w1, wr.alloc (.cells #[.int .i64 n.kind, .string ⟨#[]⟩, .slice none 0 0, .string ⟨#[]⟩, .slice none 0 0] 32) = w1 := ⟨_, rfl⟩
          have hz1 : w1.heap.size = wr.heap.size + 1 := by rw [← hw1]; simp
          have hb1 : Below wr.heap.size wr w1 := by rw [← hw1]; exact (Below.refl _ _).alloc (Nat.le_refl _) _
          have d : ∀ i u, #[Value.int .i64 n.kind, .string ⟨#[]⟩, .slice none 0 0, .string ⟨#[]⟩, .slice none 0 0][i]? = some u → w1.cell? ⟨wr.heap.size, i, none⟩ = some u ∧ w1.frozen? ⟨wr.heap.size, i, none⟩ = false := by
            intro i u hi
            rw [← hw1]
            exact ⟨by simpa using hi, by simp⟩
          rw [hw1, ← hz1]
          have HD1 := Lib.hid d
          clear hw1 d
          obtain ⟨w2, hw2, sits2, hb2⟩ := sits_conv (w := w1) HTL.out
          rw [hw2]
          have hcap := grownCap_ge w1 n.text.size 0 5
          rw [HTZ.out] at hcap ⊢
          clear hw2
          refine (rightR_any _ _ tl w2 sits2 hcap (by have := HTZ.out; omega)).mono ?_
          have hrl := right_len tl
          have hrb := isB_right tl
          obtain ⟨r, hr⟩ : ∃ r, right tl = r := ⟨_, rfl⟩
          rw [hr] at hrl hrb ⊢
          obtain ⟨t, ht, htl, htz⟩ := str_of r
          rw [ht]
          rintro e w3 ⟨rfl, hb3⟩
          have hB3 : Below w1.heap.size w1 w3 := below_after hb2 hb3
          rw [← htl] at hrb
          have htz2 : t.size ≤ 4 * n.text.size := by have := HTZ.out; omega
          have e : ∀ i u, #[Value.int .i64 n.kind, .string ⟨#[]⟩, .slice none 0 0, .string ⟨#[]⟩, .slice none 0 0][i]? = some u → w3.cell? ⟨wr.heap.size, i, none⟩ = some u ∧ w3.frozen? ⟨wr.heap.size, i, none⟩ = false := by
            intro i u hi
            exact ⟨(hB3.cell (p := ⟨wr.heap.size, i, none⟩) (by show wr.heap.size < _; omega)).trans (HD1.out i u hi).1, (hB3.frozen (p := ⟨wr.heap.size, i, none⟩) (by show wr.heap.size < _; omega)).trans (HD1.out i u hi).2⟩
          have e0 := (e 0 _ rfl).1
          have e1 := (e 1 _ rfl).1
          have e2 := (e 2 _ rfl).1
          have e3 := (e 3 _ rfl).1
          have e4 := (e 4 _ rfl).1
          have f3 := (e 3 _ rfl).2
          have hz3 : wr.heap.size < w3.heap.size := by have := hB3.size; omega
          have hbo : Below wr.heap.size wr w3 := hb1.trans (hB3.mono (by omega))
          have HRB := Lib.hid hrb
          obtain ⟨A6, c6, rfl, hc6⟩ := OwnT.shape hown
          have hownF := fun ob => OwnC.later hown ((hbo.setCell (p := ⟨wr.heap.size, 3, none⟩) (Nat.le_refl _) (.string t)).alloc (by simp; omega) ob)
          have HOF := Lib.hid hownF
          have hbf : Below w.heap.size w (w3.setCell ⟨wr.heap.size, 3, none⟩ (.string t)) := (hbel.trans (hbo.mono hwz)).setCell (p := ⟨wr.heap.size, 3, none⟩) hwz _
          have HLO := Lib.hid (OwnT.lt hown)
          have hn5 : ∀ i u, (ncells1 ⟨.mk n.kind ⟨#[]⟩ [] t [], .slice none 0 0, .slice none 0 0⟩)[i]? = some u →
              ((w3.setCell ⟨wr.heap.size, 3, none⟩ (.string t)).alloc (.cells #[.int .i64 n.kind, .string ⟨#[]⟩, .slice none 0 0, .string t, .slice none 0 0] 32)).cell? ((⟨w3.heap.size, 0, none⟩ : Addr).add i) = some u := by
            intro i u hi
            have := new_five (w3.setCell ⟨wr.heap.size, 3, none⟩ (.string t)) 32 ⟨.mk n.kind ⟨#[]⟩ [] t [], .slice none 0 0, .slice none 0 0⟩ i u hi
            rw [show (w3.setCell ⟨wr.heap.size, 3, none⟩ (.string t)).heap.size = w3.heap.size by simp] at this
            exact this
          have HN5 := Lib.hid hn5
          have hwr3 : w.heap.size ≤ w3.heap.size + 1 := by omega
          clear hr ht htl htz hrl hrb hb1 hb2 hb3 hB3 sits2 hcap e hownF hown hn5 hbo
          go_wp2_with (at_builtin; refine wpList_append_node rfl _ _ rfl w.heap.size w.heap.size out (.slice A6 out.length c6) rfl (HOF.out _) ⟨.mk n.kind ⟨#[]⟩ [] t [], .slice none 0 0, .slice none 0 0⟩ ⟨w3.heap.size, 0, none⟩ 1 rfl HN5.out (AttrsAt.nil _ _) (Tree.nil _ _) (by omega) (by simpa using hwr3) ?_; intro v' w4 hown' hgrow)
          have hB4 : Below w.heap.size w w4 := (hbf.alloc hbf.size _).grown hgrow (by simpa using hwr3) (fun g hg => (HLO.out g hg).1)
          clear hgrow
          go_roundw
          case rel =>
            refine ⟨k + 1, out ++ [.mk n.kind ⟨#[]⟩ [] t []], by go_num, by omega, hown', ?_, preOK_snoc (n := .mk n.kind ⟨#[]⟩ [] t []) HOK.out (.inr ⟨HKD.out, rfl, rfl, rfl, HRB.out⟩) GoodL.nil, hB4, HKP.out.snocT HN.out HKD.out _⟩
            rw [szL_append, szL_cons, szL_nil, szN_mk, HST.out, HNE.out]
            simp only [szA, szL]
            show szL out + (10 + 0 + t.size + 0 + 0 + 0) ≤ _
            omega
          case measure => simp [intOf]; omega
        · obtain ⟨A2, c2, rfl, _, _⟩ := id HAT.out.at_
          have hw := fun w => word_eq n.name w hns2
          have HW := Lib.hid hw
          have HKD := Lib.hid hkind
          clear hw hkind
          obtain ⟨q, hq⟩ : ∃ q, (decide (n.kind < 1) || decide (3 < n.kind)) = q := ⟨_, rfl⟩
          have HQ := Lib.hid hq
          clear hq
          go_upto_region 6 with fail
          go_cut [29] (fun s wx => s = .bool q ∧ wx = wr.alloc (.cells #[.int .i64 n.kind, .string ⟨#[]⟩, .slice none 0 0, .string ⟨#[]⟩, .slice none 0 0] 32))
          case first =>
            have hkk : n.kind = 1 ∨ n.kind < 1 ∨ 3 < n.kind := by have := HKD.out; omega
            have hq := HQ.out
            rcases hkk with hk1 | hk1 | hk1
            case' inl =>
              rw [hk1] at hq ⊢
              have hq' : false = q := hq
              clear hq
              subst hq'
            case' inr.inl =>
              have B0 : decide (n.kind < 1) = true := by simp; omega
              rw [B0] at hq
              have hq' : true = q := hq
              clear hq
              subst hq'
            case' inr.inr =>
              have B0 : decide (n.kind < 1) = false := by simp; omega
              have B1 : decide (3 < n.kind) = true := by simp; omega
              rw [B0, B1] at hq
              have hq' : true = q := hq
              clear hq
              subst hq'
            all_goals
              go_wp2_with fail
              go_meet
            all_goals first
              | exact ⟨rfl, rfl⟩
              | exact ⟨rfl, by rw [hk1]⟩
          case rest =>
            obtain ⟨rfl, rfl⟩ := hcut
            go_upto_if 29 with fail
            go_cut [] (fun wx => wx = wr.alloc (.cells #[.int .i64 1, .string ⟨#[]⟩, .slice none 0 0, .string ⟨#[]⟩, .slice none 0 0] 32))
            case first =>
              have hq := HQ.out
              cases q with
              | true =>
                clear hq
                go_wp2_with fail
                go_meet
                case rel => rfl
              | false =>
                have hk1 : n.kind = 1 := by
                  have := HKD.out
                  simp at hq
                  omega
                clear hq
                rw [hk1]
                go_wp2_with fail
                go_meet
                case rel => rfl
            case rest =>
              subst hcut
              go_wp2_with fail
              obtain ⟨w1, hw1⟩ : ∃ w1, wr.alloc (.cells #[.int .i64 1, .string ⟨#[]⟩, .slice none 0 0, .string ⟨#[]⟩, .slice none 0 0] 32) = w1 := ⟨_, rfl⟩
              have hz1 : w1.heap.size = wr.heap.size + 1 := by rw [← hw1]; simp
              have hb1 : Below wr.heap.size wr w1 := by rw [← hw1]; exact (Below.refl _ _).alloc (Nat.le_refl _) _
              have d : ∀ i u, #[Value.int .i64 1, .string ⟨#[]⟩, .slice none 0 0, .string ⟨#[]⟩, .slice none 0 0][i]? = some u → w1.cell? ⟨wr.heap.size, i, none⟩ = some u ∧ w1.frozen? ⟨wr.heap.size, i, none⟩ = false := by
                intro i u hi
                rw [← hw1]
                exact ⟨by simpa using hi, by simp⟩
              rw [hw1]
              have HD1 := Lib.hid d
              clear hw1 d
              refine (HW.out w1).mono ?_
              rintro e w2 ⟨t, rfl, htn, htz, hb2, hte⟩
              have HTE := Lib.hid hte
              clear hte
              have hz2 : wr.heap.size < w2.heap.size := by have := hb2.size; omega
              have e' : ∀ i u, #[Value.int .i64 1, .string ⟨#[]⟩, .slice none 0 0, .string ⟨#[]⟩, .slice none 0 0][i]? = some u → w2.cell? ⟨wr.heap.size, i, none⟩ = some u ∧ w2.frozen? ⟨wr.heap.size, i, none⟩ = false := by
                intro i u hi
                exact ⟨(hb2.cell (p := ⟨wr.heap.size, i, none⟩) (by show wr.heap.size < _; omega)).trans (HD1.out i u hi).1, (hb2.frozen (p := ⟨wr.heap.size, i, none⟩) (by show wr.heap.size < _; omega)).trans (HD1.out i u hi).2⟩
              have e1 := (e' 1 _ rfl).1
              have f1 := (e' 1 _ rfl).2
              have HE2 := Lib.hid e'
              have HTN := Lib.hid htn
              have hbo : Below wr.heap.size wr w2 := hb1.trans (hb2.mono (by omega))
              have HBO := Lib.hid hbo
              clear e' htn hb1 hb2 hbo
              go_wp2_with fail
              obtain ⟨W0, hW0⟩ : ∃ W0, w2.setCell ⟨wr.heap.size, 1, none⟩ (.string t) = W0 := ⟨_, rfl⟩
              have hz0 : W0.heap.size = w2.heap.size := by rw [← hW0]; simp
              have d0 : W0.cell? ⟨wr.heap.size, 0, none⟩ = some (.int .i64 1) := by rw [← hW0, World.cell?_setCell_other _ _ _ _ (by simp)]; exact (HE2.out 0 _ rfl).1
              have d1 : W0.cell? ⟨wr.heap.size, 1, none⟩ = some (.string t) := by rw [← hW0]; exact World.cell?_setCell_same _ _ _ e1
              have d2 : W0.cell? ⟨wr.heap.size, 2, none⟩ = some (.slice none 0 0) := by rw [← hW0, World.cell?_setCell_other _ _ _ _ (by simp)]; exact (HE2.out 2 _ rfl).1
              have d3 : W0.cell? ⟨wr.heap.size, 3, none⟩ = some (.string ⟨#[]⟩) := by rw [← hW0, World.cell?_setCell_other _ _ _ _ (by simp)]; exact (HE2.out 3 _ rfl).1
              have d4 : W0.cell? ⟨wr.heap.size, 4, none⟩ = some (.slice none 0 0) := by rw [← hW0, World.cell?_setCell_other _ _ _ _ (by simp)]; exact (HE2.out 4 _ rfl).1
              have df2 : W0.frozen? ⟨wr.heap.size, 2, none⟩ = false := by rw [← hW0, World.frozen?_setCell]; exact (HE2.out 2 _ rfl).2
              have df4 : W0.frozen? ⟨wr.heap.size, 4, none⟩ = false := by rw [← hW0, World.frozen?_setCell]; exact (HE2.out 4 _ rfl).2
              have hbo0 : Below wr.heap.size wr W0 := by rw [← hW0]; exact HBO.out.setCell (p := ⟨wr.heap.size, 1, none⟩) (Nat.le_refl _) _
              rw [hW0]
              have HD := Lib.hid (And.intro d0 (And.intro d1 (And.intro d2 (And.intro d3 d4))))
              have HB0 := Lib.hid hbo0
              have hz02 : wr.heap.size < W0.heap.size := by omega
              clear hW0 e1 f1 d0 d1 d3 d4 hbo0 hz0
              obtain ⟨wo, rfl⟩ : ∃ wo : World, wo = wr := ⟨_, rfl⟩
              go_loopw [6] (fun y wi => InGRel W0 wo.heap.size n.attrs y wi) (fun y _ => n.attrs.length - (intOf y).toNat)
              case atStart => exact ⟨0, [], _, rfl, by omega, d2, fun _ _ => rfl, df2, df4, World.ownsRow_nil _ _ _ _, ⟨by simp, List.Pairwise.nil⟩, by simp [szA], Below.refl _ _, Nat.le_refl _, by simp⟩
              case round =>
                obtain ⟨j, a, va, rfl, HI⟩ := hrel
                have hj := HI.le
                have g2 := HI.c2
                have hiz := HI.hz
                have hib := HI.bel
                have HII := Lib.hid HI
                clear HI d2 df2 df4
                have hbr3 : b < wr.heap.size := by omega
                have p2 : wr.cell? ⟨b, o + k * 5 + 2, none⟩ = some (.slice A2 n.attrs.length c2) := (hib.cell (p := ⟨b, o + k * 5 + 2, none⟩) hbr).trans ((HB0.out.cell (p := ⟨b, o + k * 5 + 2, none⟩) hbr).trans q2)
                have p4 : wr.cell? ⟨b, o + k * 5 + 4, none⟩ = some vk := (hib.cell (p := ⟨b, o + k * 5 + 4, none⟩) hbr).trans ((HB0.out.cell (p := ⟨b, o + k * 5 + 4, none⟩) hbr).trans q4)
                by_cases hin : j < n.attrs.length
                · obtain ⟨b2, o2, c2', hv2, _, hSb2, hac⟩ := HAT.out.at_.at_ (by omega)
                  injection hv2 with hA2 _ hcc2
                  subst hA2
                  subst hcc2
                  obtain ⟨x, hx⟩ : ∃ x, n.attrs[j]? = some x := ⟨_, List.getElem?_eq_getElem hin⟩
                  have hbw2 : b2 < w.heap.size := HS.out b2 hSb2
                  have hbw3 : b2 < wo.heap.size := by omega
                  have k0 : wr.cell? ⟨b2, o2 + j * 2, none⟩ = some (.string x.1) := (hib.cell (p := ⟨b2, o2 + j * 2, none⟩) hbw3).trans ((HB0.out.cell (p := ⟨b2, o2 + j * 2, none⟩) hbw3).trans ((hbel.cell (p := ⟨b2, o2 + j * 2, none⟩) hbw2).trans (hac j x hx).1))
                  have k1 : wr.cell? ⟨b2, o2 + j * 2 + 1, none⟩ = some (.string x.2) := (hib.cell (p := ⟨b2, o2 + j * 2 + 1, none⟩) hbw3).trans ((HB0.out.cell (p := ⟨b2, o2 + j * 2 + 1, none⟩) hbw3).trans ((hbel.cell (p := ⟨b2, o2 + j * 2 + 1, none⟩) hbw2).trans (hac j x hx).2))
                  have hxs := szA_at hx
                  have hxn : x.1.size ≤ 100000 ∧ x.2.size ≤ 100000 := by have := HNE.out; omega
                  obtain ⟨hxn1, hxn2⟩ := hxn
                  have HX := Lib.hid hx
                  clear hac hx
                  have nn0 := World.new_ne wr ⟨b, o + k * 5 + 2, none⟩ p2
                  have nn1 := World.new_ne wr ⟨b2, o2 + j * 2, none⟩ k0
                  have nn2 := World.new_ne wr ⟨b2, o2 + j * 2 + 1, none⟩ k1
                  go_upto_region 15 with fail
                  go_cut [7] (fun s7 wx => RegEnd wr x s7 wx)
                  case first =>
                    have MKS := Lib.hid fun (W : World) (hb : Below wr.heap.size wr W) => (⟨cell_keep hb p2, cell_keep hb k0, cell_keep hb k1, hb⟩ : W.cell? ⟨b, o + k * 5 + 2, none⟩ = some (.slice (some ⟨b2, o2, none⟩) n.attrs.length c2) ∧ W.cell? ⟨b2, o2 + j * 2, none⟩ = some (.string x.1) ∧ W.cell? ⟨b2, o2 + j * 2 + 1, none⟩ = some (.string x.2) ∧ Below wr.heap.size wr W)
                    have SB := Lib.hid fun (W : World) (h : W.cell? ⟨b, o + k * 5 + 2, none⟩ = some (.slice (some ⟨b2, o2, none⟩) n.attrs.length c2) ∧ W.cell? ⟨b2, o2 + j * 2, none⟩ = some (.string x.1) ∧ W.cell? ⟨b2, o2 + j * 2 + 1, none⟩ = some (.string x.2) ∧ Below wr.heap.size wr W) => h.2.2.2
                    rw [show (Op.convert 9 52 (.tmp 81) : Op) = cvOp from rfl]
                    go_region_held3 (fun W => W.cell? ⟨b, o + k * 5 + 2, none⟩ = some (.slice (some ⟨b2, o2, none⟩) n.attrs.length c2) ∧ W.cell? ⟨b2, o2 + j * 2, none⟩ = some (.string x.1) ∧ W.cell? ⟨b2, o2 + j * 2 + 1, none⟩ = some (.string x.2) ∧ Below wr.heap.size wr W)
                      (first
                        | exact MKS.out _ (Below.refl _ _).drew
                        | (refine MKS.out _ (below_after (SB.out _ ?_) hba); assumption)
                        | (refine MKS.out _ (below_after (SB.out _ ?_) hbb); assumption)
                        | (refine MKS.out _ (below_after (SB.out _ ?_) (below_new _ _)); assumption)
                        | (refine MKS.out _ (below_after (SB.out _ ?_) (alloc_drew_below _ _)); assumption)
                        | (refine MKS.out _ (below_after (SB.out _ ?_) (below_n1 _ _)); assumption)
                        | (refine MKS.out _ (below_after (SB.out _ ?_) (below_n2 _ _)); assumption)
                        | (refine MKS.out _ (below_after (SB.out _ ?_) (below_c2 _ _)); assumption)
                        | (refine MKS.out _ (below_swap (o := ?_) (SB.out _ ?_) ?_); rotate_left; assumption; ((try simp); omega))
                        | (refine MKS.out _ (Below.setCell (Below.setCell (SB.out _ (by assumption)) (by first | omega | (simp; done) | (simp; omega)) _) (by first | omega | (simp; done) | (simp; omega)) _)))
                      (first
                        | (go_at_call 36; refine (attribute_eq x.1 _ hxn1).mono ?_; rintro e w' ⟨ta, rfl, hta, htaz, hba⟩; have hza := hba.size; (try simp at hza); obtain ⟨hca, hfa⟩ := bcell hba; (try have hga : wr.heap.size < w'.heap.size := by omega); (try have hgb : wr.heap.size + 1 < w'.heap.size := by omega))
                        | (go_at_call 34; refine (rightS_any _ _ x.2 _ (sits_at (by simp)) (grownCap_ge _ _ _ _) (by omega)).mono ?_; rintro e w' ⟨ub, rfl, hub, hubz, hbb⟩; have hzb := hbb.size; (try simp at hzb); obtain ⟨hcb, hfb⟩ := bcell hbb)
                        | (go_at_call 34; refine (rightS_any _ _ x.2 _ (sits_step (sits_at (by simp)) (below_n1 _ _)) (grownCap_ge _ _ _ _) (by omega)).mono ?_; rintro e w' ⟨ub, rfl, hub, hubz, hbb⟩; have hzb := hbb.size; (try simp at hzb); obtain ⟨hcb, hfb⟩ := bcell hbb)
                        | (go_at_call 34; refine (rightS_any _ _ x.2 _ (sits_step (sits_at2 (by simp)) hba) (grownCap_ge _ _ _ _) (by omega)).mono ?_; rintro e w' ⟨ub, rfl, hub, hubz, hbb⟩; have hzb := hbb.size; (try simp at hzb); obtain ⟨hcb, hfb⟩ := bcell hbb)
                        | (go_at_call 34; refine (rightS_any _ _ x.2 _ (sits_step (sits_step (sits_at2 (by simp)) hba) (below_new _ _)) (grownCap_ge _ _ _ _) (by omega)).mono ?_; rintro e w' ⟨ub, rfl, hub, hubz, hbb⟩; have hzb := hbb.size; (try simp at hzb); obtain ⟨hcb, hfb⟩ := bcell hbb)
                        | (go_at_call 34; refine (rightS_any _ _ x.2 _ (sits_step (sits_step (sits_at2 (by simp)) (below_n2 _ _)) hba) (grownCap_ge _ _ _ _) (by omega)).mono ?_; rintro e w' ⟨ub, rfl, hub, hubz, hbb⟩; have hzb := hbb.size; (try simp at hzb); obtain ⟨hcb, hfb⟩ := bcell hbb))
                    all_goals go_wp2_with fail
                    all_goals go_meet
                    all_goals first
                      | exact regEnd_alloc (by omega) hta hub htaz hubz (SB.out _ (by assumption))
                      | exact regEnd_set (by first | omega | (simp; done) | (simp; omega)) (by first | (rw [hcb _ _ (by first | omega | (simp; done) | (simp; omega))]; simp; done) | (rw [hcb _ _ (by first | omega | (simp; done) | (simp; omega))]; rw [World.cell?_drew, World.cell?_alloc_past _ _ _ (by omega), hca _ _ (by first | omega | (simp; done) | (simp; omega))]; simp; done) | (rw [hcb _ _ (by first | omega | (simp; done) | (simp; omega)), hca _ _ (by first | omega | (simp; done) | (simp; omega))]; simp; done) | (rw [hcb _ _ (by first | omega | (simp; done) | (simp; omega)), hca _ _ (by first | omega | (simp; done) | (simp; omega))]; rfl)) (by first | (rw [hcb _ _ (by first | omega | (simp; done) | (simp; omega))]; simp; done) | (rw [hcb _ _ (by first | omega | (simp; done) | (simp; omega))]; rw [World.cell?_drew, World.cell?_alloc_past _ _ _ (by omega), hca _ _ (by first | omega | (simp; done) | (simp; omega))]; simp; done) | (rw [hcb _ _ (by first | omega | (simp; done) | (simp; omega)), hca _ _ (by first | omega | (simp; done) | (simp; omega))]; simp; done) | (rw [hcb _ _ (by first | omega | (simp; done) | (simp; omega)), hca _ _ (by first | omega | (simp; done) | (simp; omega))]; rfl)) hta hub htaz hubz (SB.out _ (by assumption))
                  case rest =>
                    obtain ⟨g, t2, u2, rfl, hg, cg0, cg1, hat2, hub2, htz2, huz2, hbc⟩ := hcut
                    have hBw : wo.heap.size < wr.heap.size := by omega
                    have hBc : wo.heap.size < wc.heap.size := by have := hbc.size; omega
                    have r0 : wc.cell? ⟨wo.heap.size, 0, none⟩ = some (.int .i64 1) := (hbc.cell (p := ⟨wo.heap.size, 0, none⟩) hBw).trans ((HII.out.ci 0 (by omega)).trans HD.out.1)
                    have r1 : wc.cell? ⟨wo.heap.size, 1, none⟩ = some (.string t) := (hbc.cell (p := ⟨wo.heap.size, 1, none⟩) hBw).trans ((HII.out.ci 1 (by omega)).trans HD.out.2.1)
                    have r2 : wc.cell? ⟨wo.heap.size, 2, none⟩ = some va := (hbc.cell (p := ⟨wo.heap.size, 2, none⟩) hBw).trans HII.out.c2
                    have r3 : wc.cell? ⟨wo.heap.size, 3, none⟩ = some (.string ⟨#[]⟩) := (hbc.cell (p := ⟨wo.heap.size, 3, none⟩) hBw).trans ((HII.out.ci 3 (by omega)).trans HD.out.2.2.2.1)
                    have r4 : wc.cell? ⟨wo.heap.size, 4, none⟩ = some (.slice none 0 0) := (hbc.cell (p := ⟨wo.heap.size, 4, none⟩) hBw).trans ((HII.out.ci 4 (by omega)).trans HD.out.2.2.2.2)
                    have hatA : AttrsAt (· < wc.heap.size) wc a va := ((own_attrs HII.out.own).keep (fun b hb i => hbc.cell (p := ⟨b, i, none⟩) (HII.out.own.lt b hb).2)).mono fun b hb => Nat.lt_of_lt_of_le (HII.out.own.lt b hb).2 hbc.size
                    have haz : szA a ≤ 400000 := by
                      have h1 := HII.out.sz
                      have h2 : szA (n.attrs.take j) ≤ szA n.attrs := by
                        have : szA n.attrs = szA (n.attrs.take j) + szA (n.attrs.drop j) := by rw [← szA_append, List.take_append_drop]
                        omega
                      have := HNE.out
                      omega
                    have hjl : n.attrs.length ≤ 100000 := by have h1 := szA_len n.attrs; have := HNE.out; omega
                    obtain ⟨Aa, ca, rfl, hca⟩ := id hatA
                    have hval := valueR_any (· < wc.heap.size) 1 t ⟨#[]⟩ a (.slice Aa a.length ca) (.slice none 0 0) t2 wc hatA (fun b hb => hb) (by omega)
                    have HVAL := Lib.hid hval
                    have HAT2 := Lib.hid (And.intro hat2 (And.intro hub2 (And.intro htz2 huz2)))
                    have HBC := Lib.hid hbc
                    clear hatA hval hat2 hub2 htz2 huz2 nn0 nn1 nn2 p2 p4 k0 k1 hbc g2
                    obtain ⟨q, hq⟩ : ∃ q, (valA a t2).isSome = q := ⟨_, rfl⟩
                    rw [hq] at HVAL
                    have HQ := Lib.hid hq
                    clear hq
                    cases q with
                    | true =>
                      go_wp2_with fail
                      refine HVAL.out.mono ?_
                      rintro e w3 ⟨rfl, hb3⟩
                      have hbw3 := below_after HBC.out hb3
                      go_wp2_with fail
                      go_roundw
                      case rel => exact ⟨j + 1, a, _, by go_num, HII.out.skip HX.out hbw3 hz02⟩
                      case measure => simp [intOf]; omega
                    | false =>
                      go_wp2_with fail
                      refine HVAL.out.mono ?_
                      rintro e w3 ⟨rfl, hb3⟩
                      have hbw3 := below_after HBC.out hb3
                      have hB3 : wo.heap.size < w3.heap.size := Nat.lt_of_lt_of_le hBc hb3.size
                      have s2 : w3.cell? ⟨wo.heap.size, 2, none⟩ = some (.slice Aa a.length ca) := (hb3.cell (p := ⟨wo.heap.size, 2, none⟩) hBc).trans r2
                      have hgc : g < wc.heap.size := World.block_lt_of_cell? wc ⟨g, 0, none⟩ cg0
                      have e0 : w3.cell? ⟨g, 0, none⟩ = some (.string t2) := (hb3.cell (p := ⟨g, 0, none⟩) hgc).trans cg0
                      have e1 : w3.cell? ⟨g, 1, none⟩ = some (.string u2) := (hb3.cell (p := ⟨g, 1, none⟩) hgc).trans cg1
                      have f3 : w3.frozen? ⟨wo.heap.size, 2, none⟩ = false := (hbw3.frozen (p := ⟨wo.heap.size, 2, none⟩) hBw).trans HII.out.fr
                      have hal : a.length ≤ 100000 := by have := szA_len a; omega
                      have hwz3 : W0.heap.size ≤ w3.heap.size + 1 := by have := hbw3.size; omega
                      have HOW := Lib.hid (fun ob => own_below (own_below HII.out.own hbw3) (below_new w3 ob))
                      have HG5 := Lib.hid (fun (w5 : World) (ob : Obj) (hg : (w3.alloc ob).grownBy w5 (Value.slice Aa a.length ca).ownBlock) => far_two (B := wo.heap.size) hg HII.out.own hz02 (by simp; omega))
                      obtain ⟨i0, hi, hz0, hz1, hz2⟩ := info_parts info_attr
                      go_wp2_with (at_builtin; refine wpList_append_own _ rfl _ _ 30 rfl W0.heap.size 50 i0 _ 2 32 Try.underlying30 hi hz0 hz1 hz2 rfl (by decide) _ _ _ rfl (HOW.out _) ⟨w3.heap.size, 0, none⟩ 1 1 (acells [(t2, u2)]) rfl rfl (new_two w3 _ _ _) (acells_one _) (by unfold maxLen; omega) (by omega) (by simpa using hwz3) ?_; intro v' w5 hown' hgrow _; obtain ⟨A5, c5, rfl, _⟩ := own_size hown'; obtain ⟨hc5, hf5⟩ := HG5.out w5 _ hgrow; have s5 := (hc5 2).trans ((World.cell?_alloc_past _ _ _ hB3).trans s2); have f5 := (hf5 2).trans ((World.frozen?_alloc_past _ _ _ hB3).trans f3))
                      go_roundw
                      case rel => exact ⟨j + 1, a ++ [(t2, u2)], _, by go_num, HII.out.more HX.out (below_after hbw3 (below_new w3 _)) hz02 hown' hgrow HAT2.out.1 HAT2.out.2.1 HAT2.out.2.2.1 HAT2.out.2.2.2 (Option.isNone_iff_eq_none.1 (by rw [← Option.not_isSome, HQ.out]; rfl))⟩
                      case measure => simp [intOf]; omega
                · have hjn : j = n.attrs.length := by omega
                  have htake : n.attrs.take j = n.attrs := List.take_of_length_le (by omega)
                  have hsza : szA a ≤ 4 * szA n.attrs := by have := HII.out.sz; rwa [htake] at this
                  have hbw : Below w.heap.size w wr := hbel.trans ((HB0.out.trans hib).mono hwz)
                  have hgd := IH.out k n HN.out S vk wr (HAT.out.kids.keep (Kept.belowB hbw HS.out)) (fun b hb => Nat.lt_of_lt_of_le (HS.out b hb) hbw.size) (by have := szL_kids HN.out; omega)
                  have HGD := Lib.hid hgd
                  have hBw : wo.heap.size < wr.heap.size := by omega
                  have r0 : wr.cell? ⟨wo.heap.size, 0, none⟩ = some (.int .i64 1) := (HII.out.ci 0 (by omega)).trans HD.out.1
                  have r1 : wr.cell? ⟨wo.heap.size, 1, none⟩ = some (.string t) := (HII.out.ci 1 (by omega)).trans HD.out.2.1
                  have r3 : wr.cell? ⟨wo.heap.size, 3, none⟩ = some (.string ⟨#[]⟩) := (HII.out.ci 3 (by omega)).trans HD.out.2.2.2.1
                  have r4 : wr.cell? ⟨wo.heap.size, 4, none⟩ = some (.slice none 0 0) := (HII.out.ci 4 (by omega)).trans HD.out.2.2.2.2
                  have HR := Lib.hid (And.intro r0 (And.intro r1 (And.intro g2 (And.intro r3 r4))))
                  obtain ⟨A6, c6, rfl, hc6⟩ := OwnT.shape hown
                  obtain ⟨Aa, ca, rfl, hca⟩ := own_size HII.out.own
                  have HOWN := Lib.hid hown
                  have HJN := Lib.hid (And.intro hjn htake)
                  have HSA := Lib.hid hsza
                  have hjl : n.attrs.length ≤ 100000 := by have h1 := szA_len n.attrs; have := HNE.out; omega
                  clear hgd r0 r1 r3 r4 g2 hown hjn htake hsza
                  go_wp2_with fail
                  refine HGD.out.mono ?_
                  rintro e w7 ⟨G, vG, rfl, hG, hGz, hGok, hb7, hkp7⟩
                  have HKG := Lib.hid hkp7
                  clear hkp7
                  obtain ⟨A7, c7, rfl, hc7⟩ := OwnT.shape hG
                  have hbB : wo.heap.size < w7.heap.size := Nat.lt_of_lt_of_le hBw hb7.size
                  obtain ⟨hbelF, hkF⟩ := good_kept HOWN.out hbel HB0.out hz02 HII.out hb7 hG
                  have y0 : w7.cell? ⟨wo.heap.size, 0, none⟩ = some (.int .i64 1) := (hb7.cell (p := ⟨wo.heap.size, 0, none⟩) hBw).trans HR.out.1
                  have y1 : w7.cell? ⟨wo.heap.size, 1, none⟩ = some (.string t) := (hb7.cell (p := ⟨wo.heap.size, 1, none⟩) hBw).trans HR.out.2.1
                  have y2 : w7.cell? ⟨wo.heap.size, 2, none⟩ = some (.slice Aa a.length ca) := (hb7.cell (p := ⟨wo.heap.size, 2, none⟩) hBw).trans HR.out.2.2.1
                  have y3 : w7.cell? ⟨wo.heap.size, 3, none⟩ = some (.string ⟨#[]⟩) := (hb7.cell (p := ⟨wo.heap.size, 3, none⟩) hBw).trans HR.out.2.2.2.1
                  have y4 : w7.cell? ⟨wo.heap.size, 4, none⟩ = some (.slice none 0 0) := (hb7.cell (p := ⟨wo.heap.size, 4, none⟩) hBw).trans HR.out.2.2.2.2
                  have f4 : w7.frozen? ⟨wo.heap.size, 4, none⟩ = false := (hb7.frozen (p := ⟨wo.heap.size, 4, none⟩) hBw).trans HII.out.fr4
                  have HKF := Lib.hid hkF
                  have HGG := Lib.hid (And.intro hGz hGok)
                  have HLO := Lib.hid (OwnT.lt HOWN.out)
                  have hwr7 : w.heap.size ≤ w7.heap.size + 1 := by have := hb7.size; have := hwz; omega
                  have hn5 : ∀ i u, (ncells1 ⟨.mk 1 t a ⟨#[]⟩ G, .slice Aa a.length ca, .slice A7 G.length c7⟩)[i]? = some u →
                      ((w7.setCell ⟨wo.heap.size, 4, none⟩ (.slice A7 G.length c7)).alloc (.cells #[.int .i64 1, .string t, .slice Aa a.length ca, .string ⟨#[]⟩, .slice A7 G.length c7] 32)).cell? ((⟨w7.heap.size, 0, none⟩ : Addr).add i) = some u := by
                    intro i u hi
                    have := new_five (w7.setCell ⟨wo.heap.size, 4, none⟩ (.slice A7 G.length c7)) 32 ⟨.mk 1 t a ⟨#[]⟩ G, .slice Aa a.length ca, .slice A7 G.length c7⟩ i u hi
                    rw [show (w7.setCell ⟨wo.heap.size, 4, none⟩ (.slice A7 G.length c7)).heap.size = w7.heap.size by simp] at this
                    exact this
                  have HN5 := Lib.hid hn5
                  clear hkF hGz hGok hn5 hG
                  go_wp2_with (at_builtin; refine wpList_append_node rfl _ _ rfl w.heap.size w.heap.size out (.slice A6 out.length c6) rfl (HKF.out _).1 ⟨.mk 1 t a ⟨#[]⟩ G, .slice Aa a.length ca, .slice A7 G.length c7⟩ ⟨w7.heap.size, 0, none⟩ 1 rfl HN5.out (HKF.out _).2.1 (HKF.out _).2.2 (by omega) (by simpa using hwr7) ?_; intro v' w8 hown' hgrow)
                  have hB8 : Below w.heap.size w w8 := (hbelF.alloc hbelF.size _).grown hgrow (by simpa using hwr7) (fun g hg => (HLO.out g hg).1)
                  clear hgrow
                  go_roundw
                  case rel =>
                    refine ⟨k + 1, out ++ [.mk 1 t a ⟨#[]⟩ G], by go_num, by omega, hown', ?_, preOK_snoc (n := .mk 1 t a ⟨#[]⟩ G) HOK.out (.inl ⟨rfl, HTN.out, rfl, HII.out.ok⟩) HGG.out.2, hB8, HKP.out.snocE HN.out HKD.out HTE.out HKG.out HII.out.nm⟩
                    rw [szL_append, szL_cons, szL_nil, szN_mk, HST.out, HNE.out]
                    have := HGG.out.1
                    have := HSA.out
                    have hz0 : (⟨#[]⟩ : ByteArray).size = 0 := rfl
                    omega
                  case measure => simp [intOf]; omega
      · have hex : (l.length : Int) ≤ (k : Int) := by omega
        have hlk : l.take k = l := List.take_of_length_le (by omega)
        rw [hlk] at hsz
        have ht := OwnC.tree hown (Nat.le_refl _)
        have hmg := merge_sz out
        have HG := Lib.hid (merge_good hok)
        have HTR := Lib.hid ht
        clear ht hown hok hlk
        go_wp2_with fail
        refine (mergeR_any w.heap.size out _ wr HTR.out (by omega)).mono ?_
        rintro e w1 ⟨v', rfl, hown', hb'⟩
        have hB := below_after hbel hb'
        go_wp2_with fail
        go_ret
        refine ⟨mergeB out, v', rfl, ?_, by omega, HG.out, hB, HKP.out.merge⟩
        obtain ⟨R, h1, h2, h3⟩ := hown'
        exact ⟨R, h1, own_more h2 hbel.size, h3⟩

end Go.Proofs.Ytoidjkkjnhnbhaa

/- Part Good. -/
namespace Go.Proofs.Ytoidjkkjnhnbhaa
open Go.RowKit
set_option linter.unusedVariables false

theorem OwnC.lower {w : World} {base lo base' lo' : Nat} {l : List Nd} {v : Value} (h : OwnC w base lo l v) (hb : base' ≤ base) (hl : lo' ≤ lo) : OwnC w base' lo' l v := by
  obtain ⟨R, h1, h2, h3, h4, _⟩ := h
  exact ⟨R, h1, own_more h2 hb, fun r hr => (h3 r hr).mono fun b hb => ⟨Nat.le_trans hl hb.1, hb.2⟩, fun r hr => (h4 r hr).mono fun b hb => ⟨Nat.le_trans hl hb.1, hb.2⟩, fun g hg hs => hs.2.2 hg⟩

/-- What Good tells: nodes that may be, of the call's own, of a bounded size. -/
def GoodEnd (w : World) (e : Ending) (w' : World) : Prop :=
  ∃ (G : List Nd) (v : Value), e = .returned v ∧ OwnC w' w.heap.size w.heap.size G v ∧ GoodL G ∧ szL G ≤ 67200 ∧ Below w.heap.size w w'

/-- .. and it keeps the shape of a list of plain elements. -/
def GoodEndK (w : World) (l : List Nd) (e : Ending) (w' : World) : Prop :=
  ∃ (G : List Nd) (v : Value), e = .returned v ∧ OwnC w' w.heap.size w.heap.size G v ∧ GoodL G ∧ szL G ≤ 67200 ∧ Below w.heap.size w w' ∧ Kp l G

theorem Kp.trans {a b c : List Nd} (h : Kp a b) (h2 : Kp b c) : Kp a c := ⟨fun x => h2.1 (h.1 x), fun x => h2.2 (h.2 x)⟩

theorem goodK_any (l : List Nd) (v : Value) (w : World) (hT : Tree (· < w.heap.size) w l v) (hF : Fine l) : Calls Try.prog 12 #[v] w (GoodEndK w l) := by
  have hf := Lib.hid (few_any l v w hT hF)
  clear hT hF
  go_enter Try.func12, Try.ntmps12
  go_wp2_with fail
  refine hf.out.mono ?_
  rintro e w1 ⟨out, v1, rfl, hown, hsz, hb1, hkp1⟩
  have ht := hown.tree (Nat.le_refl _)
  have HG := Lib.hid (good_any out (fun b => w.heap.size ≤ b ∧ b < w1.heap.size) v1 w1 ht (fun b hb => hb.2) (by omega))
  clear ht hown
  go_wp2_with fail
  refine HG.out.mono ?_
  rintro e w2 ⟨G, v2, rfl, hG, hGz, hGok, hb2, hkp2⟩
  have hB2 := below_after hb1 hb2
  go_wp2_with fail
  go_ret
  exact ⟨G, v2, rfl, hG.lower hb1.size hb1.size, hGok, by omega, hB2, hkp1.trans hkp2⟩

theorem goodR_any (l : List Nd) (v : Value) (w : World) (hT : Tree (· < w.heap.size) w l v) (hF : Fine l) : Calls Try.prog 12 #[v] w (GoodEnd w) := by
  refine (goodK_any l v w hT hF).mono ?_
  rintro e w' ⟨G, v2, rfl, h1, h2, h3, h4, _⟩
  exact ⟨G, v2, rfl, h1, h2, h3, h4⟩

end Go.Proofs.Ytoidjkkjnhnbhaa

/- Part StdR. -/
namespace Go.Proofs.Ytoidjkkjnhnbhaa
open Go.RowKit
set_option linter.unusedVariables false

structure FtAt (P : Nat → Prop) (w wr : World) (p : List UInt8) (l : List Nd) (k : Nat) (v : Value) : Prop where
  le : k ≤ l.length
  own : OwnK wr w.heap.size P ((l.take k).filter (fitsB p)) v
  bel : Below w.heap.size w wr
def FtRel (P : Nat → Prop) (w : World) (p : List UInt8) (l : List Nd) (x y : Value) (wr : World) : Prop := ∃ k : Nat, y = .int .i64 k ∧ FtAt P w wr p l k x

theorem filter_snoc {q : Nd → Bool} {l : List Nd} {k : Nat} {n : Nd} (h : l[k]? = some n) : (l.take (k + 1)).filter q = (l.take k).filter q ++ (if q n = true then [n] else []) := by
  rw [List.take_add_one, h, List.filter_append]
  simp only [Option.toList_some, List.filter_cons, List.filter_nil]
theorem filter_len (q : Nd → Bool) (l : List Nd) (k : Nat) : ((l.take k).filter q).length ≤ l.length := Nat.le_trans (List.length_filter_le _ _) (by rw [List.length_take]; omega)

set_option maxHeartbeats 2000000 in
set_option maxRecDepth 100000 in
theorem fittingR_any (P : Nat → Prop) (p : ByteArray) (l : List Nd) (v : Value) (w : World) (hT : Tree (fun b => P b ∧ b < w.heap.size) w l v) (hsz : szL l ≤ 100000) (hp : p.size ≤ 100000) :
    Calls Try.prog 40 #[.string p, v] w fun e w' => ∃ v', e = .returned v' ∧ OwnK w' w.heap.size P (l.filter (fitsB p.data.toList)) v' ∧ Below w.heap.size w w' := by
  have hlen := szL_len l
  obtain ⟨A, c, rfl, hc⟩ := hT.shape
  have HT := Lib.hid hT
  clear hT
  go_enter Try.func40, Try.ntmps40
  go_wp2_with fail
  go_loopw [5, 6, 7] (fun x y _ wr => FtRel P w p.data.toList l x y wr) (fun _ y _ _ => l.length - (intOf y).toNat)
  case atStart => exact ⟨0, rfl, by omega, OwnK.nil _ _ _, Below.refl _ _⟩
  case round =>
    obtain ⟨k, rfl, HR⟩ := hrel
    have hk := HR.le
    have hbr := HR.bel
    have HO := Lib.hid HR.own
    clear HR
    by_cases hlt : k < l.length
    · obtain ⟨b, o, c', hv, _, hS, hcell⟩ := HT.out.open_ (by omega)
      injection hv with hA _ hcc
      subst hA
      subst hcc
      obtain ⟨n, hn⟩ : ∃ n, l[k]? = some n := ⟨_, List.getElem?_eq_getElem hlt⟩
      obtain ⟨va, vk, hat⟩ := hcell k n hn
      have hzn := szL_at hn
      rw [szN_eq] at hzn
      obtain ⟨A3, c3, rfl, _, _⟩ := id hat.at_
      obtain ⟨A4, c4, rfl, _⟩ := hat.kids.shape
      have hb := hS.2
      have q0 : wr.cell? ⟨b, o + k * 5, none⟩ = some (.int .i64 n.kind) := (hbr.cell (p := ⟨b, o + k * 5, none⟩) hb).trans hat.c0
      have q1 : wr.cell? ⟨b, o + k * 5 + 1, none⟩ = some (.string n.name) := (hbr.cell (p := ⟨b, o + k * 5 + 1, none⟩) hb).trans hat.c1
      have q2 : wr.cell? ⟨b, o + k * 5 + 2, none⟩ = some (.slice A3 n.attrs.length c3) := (hbr.cell (p := ⟨b, o + k * 5 + 2, none⟩) hb).trans hat.c2
      have q3 : wr.cell? ⟨b, o + k * 5 + 3, none⟩ = some (.string n.text) := (hbr.cell (p := ⟨b, o + k * 5 + 3, none⟩) hb).trans hat.c3
      have q4 : wr.cell? ⟨b, o + k * 5 + 4, none⟩ = some (.slice A4 n.kids.length c4) := (hbr.cell (p := ⟨b, o + k * 5 + 4, none⟩) hb).trans hat.c4
      have i1 : (k : Int) < (l.length : Int) := by omega
      have i2 : (0 : Int) ≤ (k : Int) := by omega
      have HFT := Lib.hid (fitsR_any p n (.slice A3 n.attrs.length c3) (.slice A4 n.kids.length c4) wr ⟨_, _, rfl⟩ ⟨_, _, rfl⟩ hp (by omega))
      obtain ⟨ft, hft⟩ : ∃ q, fitsB p.data.toList n = q := ⟨_, rfl⟩
      rw [hft] at HFT
      have HFS := Lib.hid (show (l.take (k + 1)).filter (fitsB p.data.toList) = (l.take k).filter (fitsB p.data.toList) ++ (if ft = true then [n] else []) by rw [filter_snoc hn, hft])
      have HAT := Lib.hid hat
      have hfl := filter_len (fitsB p.data.toList) l k
      obtain ⟨out, hout⟩ : ∃ out, (l.take k).filter (fitsB p.data.toList) = out := ⟨_, rfl⟩
      rw [hout] at HO HFS hfl
      clear hcell hn hat hft hout
      go_wp2_with fail
      refine HFT.out.mono ?_
      rintro e w3 ⟨rfl, hb3⟩
      have hB3 := below_after hbr hb3
      have hown3 := HO.out.later hb3
      cases ft with
      | false =>
        have HOW := Lib.hid hown3
        clear q0 q1 q2 q3 q4 hown3
        go_wp2_with fail
        go_roundw
        case rel => exact ⟨k + 1, by go_num, by omega, by rw [HFS.out]; simpa using HOW.out, hB3⟩
        case measure => simp [intOf]; omega
      | true =>
        have hbl : b < wr.heap.size := Nat.lt_of_lt_of_le hb hbr.size
        have s0 : w3.cell? ⟨b, o + k * 5, none⟩ = some (.int .i64 n.kind) := (hb3.cell (p := ⟨b, o + k * 5, none⟩) hbl).trans q0
        have s1 : w3.cell? ⟨b, o + k * 5 + 1, none⟩ = some (.string n.name) := (hb3.cell (p := ⟨b, o + k * 5 + 1, none⟩) hbl).trans q1
        have s2 : w3.cell? ⟨b, o + k * 5 + 2, none⟩ = some (.slice A3 n.attrs.length c3) := (hb3.cell (p := ⟨b, o + k * 5 + 2, none⟩) hbl).trans q2
        have s3 : w3.cell? ⟨b, o + k * 5 + 3, none⟩ = some (.string n.text) := (hb3.cell (p := ⟨b, o + k * 5 + 3, none⟩) hbl).trans q3
        have s4 : w3.cell? ⟨b, o + k * 5 + 4, none⟩ = some (.slice A4 n.kids.length c4) := (hb3.cell (p := ⟨b, o + k * 5 + 4, none⟩) hbl).trans q4
        have HKP := Lib.hid (fun ob => input_keptK hB3 hown3 ob)
        have HOWN := Lib.hid (fun ob => OwnK.later hown3 (below_new w3 ob))
        have HOW := Lib.hid hown3
        have hwr : w.heap.size ≤ w3.heap.size + 1 := by have := hB3.size; omega
        clear q0 q1 q2 q3 q4 hown3
        go_wp2_with (at_builtin; refine wpList_append_nodeK rfl _ _ rfl w.heap.size P out _ rfl (HOWN.out _) ⟨n, .slice A3 n.attrs.length c3, .slice A4 n.kids.length c4⟩ ⟨w3.heap.size, 0, none⟩ 1 rfl (new_five _ _ _) ((HAT.out.at_.keep (HKP.out _).1).mono (HKP.out _).2) ((HAT.out.kids.keep (HKP.out _).1).mono (HKP.out _).2) (by omega) (by simpa using hwr) ?_; intro v' w2 hown' hgrow)
        have hB2 : Below w.heap.size w w2 := (hB3.alloc hB3.size _).grown hgrow (by simpa using hwr) (fun g hg => (OwnT.lt HOW.out g hg).1)
        clear hgrow
        go_roundw
        case rel => exact ⟨k + 1, by go_num, by omega, by rw [HFS.out]; exact hown', hB2⟩
        case measure => simp [intOf]; omega
    · have hke : k = l.length := by omega
      have HOW := Lib.hid (show OwnK wr w.heap.size P (l.filter (fitsB p.data.toList)) _ by have := HO.out; rwa [hke, List.take_length] at this)
      go_wp2_with fail
      go_ret
      exact ⟨_, rfl, HOW.out, hbr⟩

end Go.Proofs.Ytoidjkkjnhnbhaa
