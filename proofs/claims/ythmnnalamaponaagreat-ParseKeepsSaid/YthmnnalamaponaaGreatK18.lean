/- Parts of the proof, in build order: TkS OpenT OpenK TreeL Laid CutT BldC NamD. -/
import Derived.Test.YthmnnalamaponaaGreatK17
import Derived.Test.YthmnnalamaponaaGreatK05
import Derived.Test.YthmnnalamaponaaGreatK08
import Derived.ChangeArms
import Derived.DataReads
import Derived.Deep.Fields
import Derived.ProofKit
import Derived.OpenShut
import Derived.Test.YthmnnalamaponaaGreatK14
import Derived.Test.YthmnnalamaponaaGreatK06
import Derived.Test.YthmnnalamaponaaGreatK09
import Derived.Test.YthmnnalamaponaaGreatK11
import Derived.RegionTactic
import Derived.Deep.RegionHeld3
import Derived.Test.YthmnnalamaponaaGreatK01
import Derived.Test.YthmnnalamaponaaGreatK10
import Derived.BigQuiet

/- Part TkS. -/
namespace Go.Proofs.YthmnnalamaponaaGreat
open Go.RowKit
set_option linter.unusedVariables false

structure TksAt (w wr : World) (l : List UInt8) (s : ByteArray) (toks : List Tk) (v : Value) : Prop where
  is : tokB l = toks ++ tokB s.data.toList
  len : toks.length + 2 * s.size ≤ 2 * l.length
  own : OwnK5 wr w.heap.size toks v
  bel : Below w.heap.size w wr

/-- A token has come: the list stands, and so do the token's attributes. -/
theorem tok_ready {w wr w2 : World} {toks : List Tk} {v va : Value} {al : List (ByteArray × ByteArray)} (hown : OwnK5 wr w.heap.size toks v) (hbel : Below w.heap.size w wr) (hb : Below wr.heap.size wr w2)
    (hat : AttrsAt (fun b => wr.heap.size ≤ b ∧ b < w2.heap.size) w2 al va) (W : World) (hW : Below w2.heap.size w2 W) :
    OwnK5 W w.heap.size toks v ∧ AttrsAt (Sub w.heap.size W v) W al va ∧ Below w.heap.size w W := by
  have hbW := below_after hb hW
  refine ⟨hown.later hbW, ?_, below_after hbel hbW⟩
  refine (hat.keep (Kept.below hW fun b hb => hb.2)).mono fun b hb => ⟨by have := hbel.size; omega, Nat.lt_of_lt_of_le hb.2 hW.size, fun e => ?_⟩
  have := (hown.lt b e).2
  omega
theorem set4k {B k : Nat} {a W : World} (h : Below B a W) (hk : B ≤ k) (x y z u : Value) : Below B a ((((W.setCell ⟨k, 0, none⟩ x).setCell ⟨k, 1, none⟩ y).setCell ⟨k, 2, none⟩ z).setCell ⟨k, 3, none⟩ u) :=
  (((h.setCell (p := ⟨k, 0, none⟩) hk _).setCell (p := ⟨k, 1, none⟩) hk _).setCell (p := ⟨k, 2, none⟩) hk _).setCell (p := ⟨k, 3, none⟩) hk _
theorem box_set4 {W : World} {k : Nat} {p q r s : Value} {ty : TypeId} (h : W.heap[k]? = some (.cells #[p, q, r, s] ty (0, 0))) (x y z u : Value) :
    ((((W.setCell ⟨k, 0, none⟩ x).setCell ⟨k, 1, none⟩ y).setCell ⟨k, 2, none⟩ z).setCell ⟨k, 3, none⟩ u).heap[k]? = some (.cells #[x, y, z, u] ty (0, 0)) := by
  have h0 := heap_setCell_same _ k 0 _ _ x h
  have h1 := heap_setCell_same _ k 1 _ _ y h0
  have h2 := heap_setCell_same _ k 2 _ _ z h1
  have h3 := heap_setCell_same _ k 3 _ _ u h2
  simpa using h3
/-- A block of the call's own stays, behind the append. -/
theorem tok_still {W w5 : World} {k : Nat} {cs : Array Value} {ty : TypeId} {v : Value} (hbx : W.heap[k]? = some (.cells cs ty (0, 0))) (hg : W.grownBy w5 v.ownBlock) (hv : v.ownBlock ≠ some k) : w5.heap[k]? = some (.cells cs ty (0, 0)) :=
  (hg.block k (Array.getElem?_eq_some_iff.1 hbx).1 (fun e => hv e.symm)).trans hbx

set_option maxHeartbeats 4000000 in
set_option maxRecDepth 100000 in
theorem tokens_any (s : ByteArray) (w : World) (HG : Glob w) (hm : s.size ≤ 1000000) : Calls Tryz.prog 120 #[.string s] w (ToksRet s w) := by
  obtain ⟨l, hl⟩ : ∃ l, s.data.toList = l := ⟨_, rfl⟩
  have hsz : s.size = l.length := by rw [← hl]; simp
  have HSL := Lib.hid hl
  have HSZ := Lib.hid hsz
  have hll : l.length ≤ 1000000 := by omega
  clear hl hsz
  go_enter Tryz.func120, Tryz.ntmps120
  go_wp2_with fail
  go_loopw [0, 3] (fun x y wr => ∃ (t : ByteArray) (toks : List Tk) (v : Value), x = .string t ∧ y = v ∧ TksAt w wr l t toks v) (fun x _ _ => match x with | .string t => t.size | _ => 0)
  case atStart => exact ⟨s, [], _, rfl, rfl, by rw [HSL.out]; rfl, by rw [HSZ.out]; simp, OwnK5.nil _ _, Below.refl _ _⟩
  case round =>
    obtain ⟨t, toks, v, rfl, rfl, HR⟩ := hrel
    obtain ⟨S, hS⟩ : ∃ S, t.data.toList = S := ⟨_, rfl⟩
    have htz : t.size = S.length := by rw [← hS]; simp
    have hbe := eqs t []
    rw [hS] at hbe
    have hlen := HR.len
    have hbel := HR.bel
    have HIS := Lib.hid HR.is
    rw [hS] at HIS
    have HOWN := Lib.hid HR.own
    have HS := Lib.hid hS
    have HTZ := Lib.hid htz
    have ht6 : t.size ≤ 1000000 := by omega
    have htk : toks.length ≤ 2000000 := by omega
    have HGR := HG.below hbel
    have hwz := hbel.size
    obtain ⟨A0, c0, rfl, hc0⟩ := HR.own.shape
    clear HR hS htz
    cases S with
    | nil =>
      have B0 : t.toList.isEmpty = true := by rw [Lib.toList_data, HS.out]; rfl
      clear hbe
      go_wp2_with fail
      go_ret
      rw [tokB_nil, List.append_nil] at HIS
      refine ⟨_, rfl, ?_, hbel⟩
      rw [HSL.out, HIS.out]
      exact HOWN.out.tokAt
    | cons x r =>
      have B0 : t.toList.isEmpty = false := by rw [Lib.toList_data, HS.out]; rfl
      clear hbe
      cases hst : startsB (x :: r) with
      | true =>
        have htl := tagB_len hst
        have hkd := fun k h => tagB_kind hst (k := k) h
        have htn := fun h => tokB_none hst h
        have htt := fun (k : Tk) h1 h2 => tokB_tag hst (k := k) h1 h2
        have htr := fun (k : Tk) h1 h2 => tokB_raw hst (k := k) h1 h2
        have hcall := fun W (h : Glob W) => tag_any t W ht6 h (by rw [HS.out]; exact hst)
        rw [HS.out] at hcall
        obtain ⟨T, hT⟩ : ∃ T, tagB (x :: r) = T := ⟨_, rfl⟩
        rw [hT] at htl hkd htn hcall
        simp only [hT] at htt htr
        obtain ⟨o, rest⟩ := T
        simp only at htl hkd htn htt htr hcall
        have HC := Lib.hid (hcall wr HGR)
        have HTN := Lib.hid htn
        have HTT := Lib.hid htt
        have HTR := Lib.hid htr
        have HKD := Lib.hid hkd
        clear hcall htn htt htr hkd hT hst
        go_wp2_with fail
        refine HC.out.mono ?_
        rintro e w2 ⟨va, n, rfl, hn, hd, hat, hb⟩
        obtain ⟨A, cc, rfl, _⟩ := id hat
        have hrl : rest.length = (x :: r).length - n := by rw [← hd, List.length_drop]
        have hn0 : n ≠ 0 := by omega
        have BN : ((n : Int) == 0) = false := by rw [beq_eq_false_iff_ne]; omega
        have cn : (n : Int) ≤ (t.size : Int) := by rw [HTZ.out]; omega
        have HEX := Lib.hid (show (t.extract n t.size).data.toList = rest by rw [drop_extract, HS.out, hd])
        have HEZ := Lib.hid (show (t.extract n t.size).size + 1 ≤ t.size by rw [str_list (t.extract n t.size), HEX.out, hrl, HTZ.out]; omega)
        have HRDY := Lib.hid (fun W hW => tok_ready (w := w) HOWN.out hbel hb hat W hW)
        rw [tkv_agg]
        have HWZ := Lib.hid hb.size
        clear hb hn hd hn0 hrl hat
        cases o with
        | none =>
          have HE := HTN.out rfl
          simp only [Option.getD_none, tk0, List.length_nil] at *
          go_wp2_with fail
          go_roundw
          case rel =>
            refine ⟨t.extract n t.size, toks, _, rfl, rfl, ?_, by have := HEZ.out; omega, ?_, ?_⟩
            · rw [HEX.out, HIS.out, HE]
            · exact (HRDY.out _ (below_new _ _)).1
            · exact (HRDY.out _ (below_new _ _)).2.2
          case measure => have := HEZ.out; show (t.extract n t.size).size < t.size; omega
        | some k =>
          obtain ⟨kk, kn, ka, kt⟩ := k
          have hk := HKD.out _ rfl
          simp only [Option.getD_some] at *
          have BK : (kk != 0) = true := by rw [bne_iff_ne]; omega
          have hW2 : Below w2.heap.size w2 ((w2.alloc (.cells #[.int .i64 kk, .string kn, .slice A ka.length cc, .string kt] 129)).alloc (.cells #[.int .i64 kk, .string kn, .slice A ka.length cc, .string kt] 129)) := below_after (below_new w2 _) (below_new _ _)
          have hrd := HRDY.out _ hW2
          have hn4 := new_four (w2.alloc (.cells #[.int .i64 kk, .string kn, .slice A ka.length cc, .string kt] 129)) 129 ⟨kk, kn, ka, kt⟩ (.slice A ka.length cc)
          have hz1 : (w2.alloc (.cells #[.int .i64 kk, .string kn, .slice A ka.length cc, .string kt] 129)).heap.size = w2.heap.size + 1 := by simp
          rw [hz1] at hn4
          have hbT := box_on (box_here w2 #[.int .i64 kk, .string kn, .slice A ka.length cc, .string kt] 129) (below_new (w2.alloc (.cells #[.int .i64 kk, .string kn, .slice A ka.length cc, .string kt] 129)) (.cells #[.int .i64 kk, .string kn, .slice A ka.length cc, .string kt] 129))
          have HN4 := Lib.hid hn4
          have HRD := Lib.hid hrd
          have HBT := Lib.hid hbT
          have HLO := Lib.hid HOWN.out.lt
          have hw2z : wr.heap.size ≤ w2.heap.size := HWZ.out
          have hlo : w.heap.size ≤ w2.heap.size + 1 + 1 := by omega
          have HK := Lib.hid hk
          clear hW2 hrd hn4 hz1 hbT hk
          by_cases h1 : kk = 1
          · subst h1
            clear BK
            have HRW := Lib.hid (fun W => raw_any kn W)
            obtain ⟨q, hq⟩ : ∃ q, rawB kn.data.toList = q := ⟨_, rfl⟩
            rw [hq] at HRW
            have HQ := Lib.hid hq
            clear hq
            go_wp2_with (at_builtin; refine wpList_append_tok rfl _ _ rfl w.heap.size toks (.slice A0 toks.length c0) rfl HRD.out.1 (⟨1, kn, ka, kt⟩, .slice A ka.length cc) ⟨w2.heap.size + 1, 0, none⟩ 1 rfl HN4.out HRD.out.2.1 (by omega) (by simpa using hlo) ?_; intro v' w5 hown5 hg5; obtain ⟨A5, c5, rfl, hc5⟩ := hown5.shape; rw [List.length_append, List.length_singleton] at hown5; have hb5 := HRD.out.2.2.grown hg5 HRD.out.2.2.size (fun g hg => (HLO.out g hg).1); have hbx5 := tok_still HBT.out hg5 (fun e => by have := (HLO.out _ e).2; omega); have x0 : w5.cell? ⟨w2.heap.size, 0, none⟩ = some (.int .i64 1) := cell_at hbx5 0; have x1 : w5.cell? ⟨w2.heap.size, 1, none⟩ = some (.string kn) := cell_at hbx5 1; have HOWN5 := Lib.hid hown5; have HB5 := Lib.hid hb5; have HBX5 := Lib.hid hbx5; clear hown5 hg5 hb5 hbx5)
            refine (HRW.out _).mono ?_
            rintro e w6 ⟨rfl, rfl⟩
            have hrt : rawTk ⟨1, kn, ka, kt⟩ = q := by
              show (decide ((1 : Int) = 1) && rawB kn.data.toList) = q
              rw [HQ.out]
              rfl
            have HRT := Lib.hid hrt
            clear hrt
            cases q with
            | false =>
              go_wp2_with fail
              go_roundw
              case rel =>
                refine ⟨t.extract n t.size, toks ++ [⟨1, kn, ka, kt⟩], _, rfl, rfl, ?_, by have := HEZ.out; rw [List.length_append, List.length_singleton]; omega, HOWN5.out, HB5.out⟩
                rw [HEX.out, HIS.out, HTT.out _ rfl HRT.out, List.append_assoc]
                rfl
              case measure => have := HEZ.out; show (t.extract n t.size).size < t.size; omega
            | true =>
              have hkz : kn.size ≤ 1000000 := by
                have h1 := HQ.out
                unfold rawB at h1
                rw [str_list]
                simp only [Bool.or_eq_true, decide_eq_true_eq] at h1
                rcases h1 with h1 | h1 <;> rw [h1] <;> decide
              have hez := HEZ.out
              have HIN := Lib.hid (inside_any (t.extract n t.size) kn w5 (by omega) hkz)
              rw [HEX.out] at HIN
              have htr := HTR.out _ rfl HRT.out
              have HTE := Lib.hid htr
              obtain ⟨u, hu⟩ : ∃ u, t.extract n t.size = u := ⟨_, rfl⟩
              rw [hu] at HIN HEX HEZ ⊢
              have huz : u.size = rest.length := by rw [str_list, HEX.out]
              clear htr hez hu
              go_wp2_with fail
              refine HIN.out.mono ?_
              rintro e w6 ⟨m, rfl, hm1, hcut, hb6⟩
              have cm : (m : Int) ≤ (u.size : Int) := by omega
              have c0' : (0 : Int) ≤ (m : Int) := by omega
              have hrl' : rest.length < t.size := by have := HEZ.out; omega
              have hm1' : m ≤ rest.length := hm1
              have HUZ := Lib.hid huz
              clear huz
              have HCUT := Lib.hid hcut
              have HEX2 := Lib.hid (show (u.extract m u.size).data.toList = rest.drop m by rw [drop_extract, HEX.out])
              have HEZ2 := Lib.hid (show (u.extract m u.size).size = rest.length - m by rw [str_list, HEX2.out, List.length_drop])
              by_cases hm0 : m = 0
              · subst hm0
                have hB6 := below_after HB5.out hb6
                have HOWN6 := Lib.hid (HOWN5.out.later hb6)
                clear hb6 cm c0' hcut
                go_wp2_with fail
                go_roundw
                case rel =>
                  refine ⟨_, toks ++ [⟨1, kn, ka, kt⟩], _, rfl, rfl, ?_, ?_, HOWN6.out, hB6⟩
                  · have hc := HCUT.out
                    rw [HIS.out, HTE.out, hc, List.append_assoc, HEX.out]
                    rfl
                  · have h1 := HEZ.out
                    rw [List.length_append, List.length_singleton]
                    omega
                case measure => have h1 := HEZ.out; show u.size < t.size; omega
              · have BM : (0 : Int) < (m : Int) := by omega
                have htk0 : (u.extract 0 m).data.toList = rest.take m := by rw [take_extract, HEX.out]
                have htz0 : (u.extract 0 m).size ≤ 1000000 := by rw [str_list, htk0, List.length_take]; have := HEZ.out; omega
                have HTK0 := Lib.hid htk0
                have HTZ0 := Lib.hid htz0
                have hb6' := hb6
                have HB6 := Lib.hid hb6'
                clear hb6 hb6' htk0 htz0 hcut hm0
                go_wp2_with fail
                refine (clone_any (u.extract 0 m) _ HTZ0.out).mono ?_
                rintro e w7 ⟨rfl, hb7⟩
                go_wp2_with fail
                refine (chars_any (u.extract 0 m) _).mono ?_
                rintro e w8 ⟨rfl, hb8⟩
                have hb58 := below_after (below_after HB6.out hb7) hb8
                have hB8 := below_after HB5.out hb58
                have HOW8 := Lib.hid (HOWN5.out.later (below_after hb58 (below_new w8 (.cells #[.int .i64 3, .string ⟨#[]⟩, .slice none 0 0, .string (u.extract 0 m)] 129))))
                have HN8 := Lib.hid (new_four w8 129 ⟨3, ⟨#[]⟩, [], u.extract 0 m⟩ (.slice none 0 0))
                have hB8n := below_after hB8 (below_new w8 (.cells #[.int .i64 3, .string ⟨#[]⟩, .slice none 0 0, .string (u.extract 0 m)] 129))
                have HB8 := Lib.hid hB8n
                have HLO5 := Lib.hid HOWN5.out.lt
                rw [tkv_agg]
                clear hb7 hb8 hb58 hB8 hB8n
                go_wp2_with (at_builtin; refine wpList_append_tok rfl _ _ rfl w.heap.size _ _ rfl HOW8.out (⟨3, ⟨#[]⟩, [], u.extract 0 m⟩, .slice none 0 0) ⟨w8.heap.size, 0, none⟩ 1 rfl HN8.out (AttrsAt.nil _ _) (by rw [List.length_append, List.length_singleton]; omega) HB8.out.size ?_; intro v' w9 hown9 hg9; obtain ⟨A9, c9, rfl, hc9⟩ := hown9.shape; rw [List.length_append, List.length_append, List.length_singleton, List.length_singleton] at hown9; have HB9 := Lib.hid (HB8.out.grown hg9 HB8.out.size (fun g hg => (HLO5.out g hg).1)); have HOWN9 := Lib.hid hown9; clear hown9 hg9)
                go_roundw
                case rel =>
                  refine ⟨_, toks ++ [⟨1, kn, ka, kt⟩] ++ [⟨3, ⟨#[]⟩, [], u.extract 0 m⟩], _, rfl, rfl, ?_, ?_, HOWN9.out, HB9.out⟩
                  · have hc := HCUT.out
                    have hne : rest.take m ≠ [] := by
                      intro e
                      have := congrArg List.length e
                      rw [List.length_take, List.length_nil] at this
                      omega
                    rw [HIS.out, HTE.out, hc, HEX2.out]
                    show toks ++ (⟨1, kn, ka, kt⟩ :: (rawBody (rest.take m) ++ tokB (rest.drop m))) = _
                    unfold rawBody
                    rw [if_neg hne, tB_eq HTK0.out]
                    simp [tkC, tB]
                  · have h2 := HEZ2.out
                    have h3 := HEZ.out
                    have h4 := HUZ.out
                    rw [List.length_append, List.length_append, List.length_singleton, List.length_singleton, h2]
                    omega
                case measure => have h2 := HEZ2.out; show (u.extract m u.size).size < t.size; omega
          · have B1 : (kk != 1) = true := by rw [bne_iff_ne]; exact h1
            have HRT := Lib.hid (show rawTk ⟨kk, kn, ka, kt⟩ = false by unfold rawTk; rw [decide_eq_false h1, Bool.false_and])
            clear h1
            go_wp2_with (at_builtin; refine wpList_append_tok rfl _ _ rfl w.heap.size toks (.slice A0 toks.length c0) rfl HRD.out.1 (⟨kk, kn, ka, kt⟩, .slice A ka.length cc) ⟨w2.heap.size + 1, 0, none⟩ 1 rfl HN4.out HRD.out.2.1 (by omega) (by simpa using hlo) ?_; intro v' w5 hown5 hg5; obtain ⟨A5, c5, rfl, hc5⟩ := hown5.shape; rw [List.length_append, List.length_singleton] at hown5; have hb5 := HRD.out.2.2.grown hg5 HRD.out.2.2.size (fun g hg => (HLO.out g hg).1); have hbx5 := tok_still HBT.out hg5 (fun e => by have := (HLO.out _ e).2; omega); have x0 : w5.cell? ⟨w2.heap.size, 0, none⟩ = some (.int .i64 kk) := cell_at hbx5 0; have x1 : w5.cell? ⟨w2.heap.size, 1, none⟩ = some (.string kn) := cell_at hbx5 1; have HOWN5 := Lib.hid hown5; have HB5 := Lib.hid hb5; have HBX5 := Lib.hid hbx5; clear hown5 hg5 hb5 hbx5)
            go_roundw
            case rel =>
              refine ⟨t.extract n t.size, toks ++ [⟨kk, kn, ka, kt⟩], _, rfl, rfl, ?_, by have := HEZ.out; rw [List.length_append, List.length_singleton]; omega, HOWN5.out, HB5.out⟩
              rw [HEX.out, HIS.out, HTT.out _ rfl HRT.out, List.append_assoc]
              rfl
            case measure => have := HEZ.out; show (t.extract n t.size).size < t.size; omega
      | false =>
        have hno := tag_none t wr ht6 (by rw [HS.out]; exact hst)
        have HNO := Lib.hid hno
        have hch := tokB_chars hst
        have hlt := charsB_less hst
        have HCH := Lib.hid hch
        have HLT := Lib.hid hlt
        clear hno hst hch hlt
        rw [tkv_agg] at HNO
        go_wp2_with fail
        refine HNO.out.mono ?_
        rintro e w2 ⟨rfl, hb2⟩
        have hw2z := hb2.size
        have HB2 := Lib.hid hb2
        simp only [tk0]
        clear hb2
        go_wp2_with fail
        refine (calm_any t _ ht6).mono ?_
        rintro e w3 ⟨m, rfl, hm1, hm2, hm3, hb3⟩
        rw [HS.out] at hm1 hm2 hm3
        have HCB := Lib.hid (charsB_at (x :: r) m hm1 hm2 hm3)
        have hmp : 0 < m := by
          have h1 := HLT.out
          rw [HCB.out, List.length_drop] at h1
          omega
        have cm : (m : Int) ≤ (t.size : Int) := by rw [HTZ.out]; omega
        have htk0 : (t.extract 0 m).data.toList = (x :: r).take m := by rw [take_extract, HS.out]
        have htz0 : (t.extract 0 m).size ≤ 1000000 := by rw [str_list, htk0, List.length_take]; have := HTZ.out; omega
        have HEX := Lib.hid (show (t.extract m t.size).data.toList = (x :: r).drop m by rw [drop_extract, HS.out])
        have HEZ := Lib.hid (show (t.extract m t.size).size + m = t.size by rw [str_list (t.extract m t.size), HEX.out, List.length_drop, HTZ.out]; omega)
        have HTK0 := Lib.hid htk0
        have hbT3 := box_on (box_here w2 #[.int .i64 0, .string ⟨#[]⟩, .slice none 0 0, .string ⟨#[]⟩] 129) hb3
        have hb23 := below_after (below_new w2 _) hb3
        clear hm1 hm2 hm3 htk0 hb3
        go_wp2_with fail
        refine (decode_any (t.extract 0 m) _ htz0).mono ?_
        rintro e w4 ⟨rfl, hb4⟩
        rw [HTK0.out]
        obtain ⟨d, hd, hdl, _⟩ := str_of (decB ((x :: r).take m))
        rw [hd]
        have HD := Lib.hid (show (⟨3, ⟨#[]⟩, [], d⟩ : Tk) = tkC (decB ((x :: r).take m)) by rw [← hd]; rfl)
        have hbT4 := box_on hbT3 hb4
        have hb24 := below_after hb23 hb4
        clear hd hdl hb4 hbT3 hb23
        go_wp2_with fail
        refine (chars_any d _).mono ?_
        rintro e w5 ⟨rfl, hb5⟩
        rw [tkv_agg]
        have hbT5 := box_on hbT4 hb5
        have hb25 := below_after hb24 hb5
        have hbr5 : Below wr.heap.size wr w5 := below_after HB2.out hb25
        have d0 : w5.cell? ⟨w2.heap.size, 0, none⟩ = some (.int .i64 0) := cell_at hbT5 0
        have d1 : w5.cell? ⟨w2.heap.size, 1, none⟩ = some (.string ⟨#[]⟩) := cell_at hbT5 1
        have d2 : w5.cell? ⟨w2.heap.size, 2, none⟩ = some (.slice none 0 0) := cell_at hbT5 2
        have d3 : w5.cell? ⟨w2.heap.size, 3, none⟩ = some (.string ⟨#[]⟩) := cell_at hbT5 3
        have f0 := froz_at hbT5 0
        have f1 := froz_at hbT5 1
        have f2 := froz_at hbT5 2
        have f3 := froz_at hbT5 3
        have hWb := set4k hbr5 hw2z (.int .i64 3) (.string ⟨#[]⟩) (.slice none 0 0) (.string d)
        have hbW := box_set4 hbT5 (.int .i64 3) (.string ⟨#[]⟩) (.slice none 0 0) (.string d)
        have hWn := hWb.alloc hWb.size (.cells #[.int .i64 3, .string ⟨#[]⟩, .slice none 0 0, .string d] 129)
        have hbN := box_on hbW (below_new _ (.cells #[.int .i64 3, .string ⟨#[]⟩, .slice none 0 0, .string d] 129))
        have hN := new_four ((((w5.setCell ⟨w2.heap.size, 0, none⟩ (.int .i64 3)).setCell ⟨w2.heap.size, 1, none⟩ (.string ⟨#[]⟩)).setCell ⟨w2.heap.size, 2, none⟩ (.slice none 0 0)).setCell ⟨w2.heap.size, 3, none⟩ (.string d)) 129 ⟨3, ⟨#[]⟩, [], d⟩ (.slice none 0 0)
        have hz5 : ((((w5.setCell ⟨w2.heap.size, 0, none⟩ (.int .i64 3)).setCell ⟨w2.heap.size, 1, none⟩ (.string ⟨#[]⟩)).setCell ⟨w2.heap.size, 2, none⟩ (.slice none 0 0)).setCell ⟨w2.heap.size, 3, none⟩ (.string d)).heap.size = w5.heap.size := by simp
        rw [hz5] at hN
        have HOWN5 := Lib.hid (HOWN.out.later hWn)
        have HBN := Lib.hid hbN
        have HN := Lib.hid hN
        have HWN := Lib.hid (below_after hbel hWn)
        have HLO := Lib.hid HOWN.out.lt
        have hlo := HWN.out.size
        clear hbT4 hb24 hb5 hbT5 hb25 hbr5 hWb hbW hWn hbN hN hz5
        go_wp2_with (at_builtin; refine wpList_append_tok rfl _ _ rfl w.heap.size toks (.slice A0 toks.length c0) rfl HOWN5.out (⟨3, ⟨#[]⟩, [], d⟩, .slice none 0 0) ⟨w5.heap.size, 0, none⟩ 1 rfl HN.out (AttrsAt.nil _ _) (by omega) (by simpa using hlo) ?_; intro v' w6 hown6 hg6; obtain ⟨A6, c6, rfl, hc6⟩ := hown6.shape; rw [List.length_append, List.length_singleton] at hown6; have hb6 := HWN.out.grown hg6 hlo (fun g hg => (HLO.out g hg).1); have hbx6 := tok_still HBN.out hg6 (fun e => by have := (HLO.out _ e).2; omega); have x0 : w6.cell? ⟨w2.heap.size, 0, none⟩ = some (.int .i64 3) := cell_at hbx6 0; have HOWN6 := Lib.hid hown6; have HB6 := Lib.hid hb6; clear hown6 hg6 hb6 hbx6)
        go_roundw
        case rel =>
          refine ⟨t.extract m t.size, toks ++ [⟨3, ⟨#[]⟩, [], d⟩], _, rfl, rfl, ?_, by have := HEZ.out; rw [List.length_append, List.length_singleton]; omega, HOWN6.out, HB6.out⟩
          rw [HEX.out, HIS.out, HCH.out, HCB.out, HD.out, List.append_assoc]
          rfl
        case measure => have := HEZ.out; show (t.extract m t.size).size < t.size; omega

/-- What token.Tokens is to do, it does. -/
theorem toks_said : ToksSaid := fun s w HG _ hm => tokens_any s w HG hm

end Go.Proofs.YthmnnalamaponaaGreat

/- Part OpenT. -/
namespace Go.Proofs.YthmnnalamaponaaGreat
open Go.RowKit Go.ChangeShapes Go.WideShapes Go.ChangeAt
set_option linter.unusedVariables false
set_option maxRecDepth 100000

theorem add_none (b o n : Nat) : (⟨b, o, none⟩ : Addr).add n = ⟨b, o + n, none⟩ := by
  unfold Addr.add
  split
  · rename_i h; subst h; rfl
  · rfl

theorem cell_below {w : World} {p : Addr} {v : Value} (h : w.cell? p = some v) : p.block < w.heap.size := by
  rcases Nat.lt_or_ge p.block w.heap.size with hlt | hge
  · exact hlt
  · unfold World.cell? at h
    rw [Array.getElem?_eq_none hge] at h
    cases h

/-- Of each place something: a list of them. -/
theorem list_of {α : Type} {P : Nat → α → Prop} : ∀ (n : Nat), (∀ i, i < n → ∃ x, P i x) → ∃ R : List α, R.length = n ∧ ∀ i x, R[i]? = some x → P i x
  | 0, _ => ⟨[], rfl, by simp⟩
  | n + 1, h => by
    obtain ⟨R, hl, hR⟩ := list_of n fun i hi => h i (by omega)
    obtain ⟨x, hx⟩ := h n (by omega)
    refine ⟨R ++ [x], by simp [hl], fun i y hy => ?_⟩
    by_cases hi : i < R.length
    · rw [List.getElem?_append_left hi] at hy
      exact hR i y hy
    · have hlt := (List.getElem?_eq_some_iff.1 hy).1
      rw [List.length_append, List.length_singleton] at hlt
      have : i = R.length := by omega
      subst this
      simp at hy
      subst hy
      rw [hl]
      exact hx

section
variable {H : Type} {enc : TypeId × Value → H} {w : World} {base : Nat} {spare : Nat → Bool} {held : Bool}

/-- A row's address, if there is a cell at its head. -/
theorem head_addr {a : Addr} {v : Value} (h : w.cell? (a.add 0) = some v) : ∃ b o, a = ⟨b, o, none⟩ ∧ b < w.heap.size := by
  have hs : a.spot = none := by simpa [Addr.add] using World.cell?_spot h
  obtain ⟨b, o, sp⟩ := a
  simp only at hs
  subst hs
  exact ⟨b, o, rfl, by simpa [Addr.add] using cell_below h⟩

theorem open_attrs {fuel : Nat} {v : Value} {x : DataW H × List MemPlace} (h : DataW.trod enc Tryz.prog w base spare held fuel 33 [v] = some x) :
    ∃ l : List (ByteArray × ByteArray), AttrsAt (· < w.heap.size) w l v ∧ l.length ≤ maxLen ∧ ∀ a ∈ l, a.1.size ≤ maxLen ∧ a.2.size ≤ maxLen := by
  have hC : Tryz.prog.cellsOf 39 = 2 := by kernel_rfl
  have C9 : Tryz.prog.cellsOf 9 = 1 := by kernel_rfl
  rcases DataW.trod_slice Tryz.underlying33 h with ⟨hcs, _⟩ | ⟨a, len, cap, elems, rest, n, _, hcs, _, _, hl, hm, hlen, hel, _, _⟩
  · simp at hcs
    subst hcs
    exact ⟨[], AttrsAt.nil _ _, by unfold maxLen; simp, by simp⟩
  · simp at hcs
    subst hcs
    rw [hC] at hel
    have key : ∀ i, i < len → ∃ y : ByteArray × ByteArray, (∀ k u, [Value.string y.1, .string y.2][k]? = some u → w.cell? ((a.add (i * 2)).add k) = some u) ∧ y.1.size ≤ maxLen ∧ y.2.size ≤ maxLen := by
      intro i hi
      have e := hel i hi
      rw [List.getElem?_eq_getElem (by omega)] at e
      obtain ⟨cs', h1, h2⟩ := Option.bind_eq_some_iff.1 e
      obtain ⟨_, hcl, hat⟩ := World.cells?_some h1
      obtain ⟨xs, n', _, _, _, hxl, hf⟩ := DataW.trod_struct Tryz.underlying39 h2
      match cs', hcl with
      | [c0, c1], _ =>
        have f0 : DataW.trod enc Tryz.prog w base spare held n' 9 ((List.drop 0 [c0, c1]).take (Tryz.prog.cellsOf 9)) = xs[0]? := hf 0 _ rfl
        have f1 : DataW.trod enc Tryz.prog w base spare held n' 9 ((List.drop 1 [c0, c1]).take (Tryz.prog.cellsOf 9)) = xs[1]? := hf 1 _ rfl
        rw [C9, List.getElem?_eq_getElem (by rw [hxl]; decide)] at f0
        rw [C9, List.getElem?_eq_getElem (by rw [hxl]; decide)] at f1
        obtain ⟨s0, e0, _, z0⟩ := DataW.trod_string Tryz.underlying9 f0
        obtain ⟨s1, e1, _, z1⟩ := DataW.trod_string Tryz.underlying9 f1
        simp at e0 e1
        subst e0
        subst e1
        refine ⟨(s0, s1), fun k u hk => ?_, z0, z1⟩
        have hk2 : k < 2 := (List.getElem?_eq_some_iff.1 hk).1
        rw [hat k hk2]
        exact hk
    obtain ⟨l, hll, hlp⟩ := list_of len key
    refine ⟨l, ⟨some a, cap, by rw [hll], by omega, ?_⟩, by unfold maxLen at *; omega, ?_⟩
    · intro hx
      rw [acells_length] at hx
      obtain ⟨y0, hy0⟩ : ∃ y, l[0]? = some y := ⟨_, List.getElem?_eq_getElem (by omega)⟩
      have h00 := (hlp 0 y0 hy0).1 0 _ rfl
      obtain ⟨b, o, rfl, hb⟩ := head_addr (a := a) (v := .string y0.1) (by simpa [Addr.add] using h00)
      refine ⟨b, o, rfl, hb, fun j u hu => ?_⟩
      have hj := (List.getElem?_eq_some_iff.1 hu).1
      rw [acells_length] at hj
      obtain ⟨y, hy⟩ : ∃ y, l[j / 2]? = some y := ⟨_, List.getElem?_eq_getElem (by omega)⟩
      have hp := (hlp (j / 2) y hy).1
      have ha := acells_at hy
      rcases (show j = j / 2 * 2 ∨ j = j / 2 * 2 + 1 by omega) with hj2 | hj2
      · have := hp 0 _ rfl
        rw [add_none, add_none, Nat.add_assoc, Nat.add_zero, ← hj2] at this
        rw [this]
        rw [← hj2] at ha
        exact (ha.1.symm.trans hu)
      · have := hp 1 _ rfl
        rw [add_none, add_none, Nat.add_assoc, ← hj2] at this
        rw [this]
        rw [← hj2] at ha
        exact (ha.2.symm.trans hu)
    · intro y hy
      obtain ⟨i, hi, he⟩ := List.mem_iff_getElem.1 hy
      exact (hlp i y (by rw [List.getElem?_eq_getElem hi, he])).2

/-- What is told of a node at its place. -/
def NodeP (w : World) (a : Addr) (i : Nat) (r : Rn) : Prop :=
  (∀ k u, (ncells1 r)[k]? = some u → w.cell? ((a.add (i * 5)).add k) = some u) ∧ AttrsAt (· < w.heap.size) w r.n.attrs r.va ∧ Tree (· < w.heap.size) w r.n.kids r.vk ∧ FineN r.n ∧ Fine r.n.kids

theorem nodes_close {a : Addr} {len cap : Nat} {R : List Rn} (hR : R.length = len) (hl : len ≤ cap) (hm : cap ≤ maxLen) (hp : ∀ i r, R[i]? = some r → NodeP w a i r) :
    Tree (· < w.heap.size) w (R.map Rn.n) (.slice (some a) len cap) ∧ Fine (R.map Rn.n) := by
  have hmem : ∀ r ∈ R, ∃ i, NodeP w a i r := by
    intro r hr
    obtain ⟨i, hi, he⟩ := List.mem_iff_getElem.1 hr
    exact ⟨i, hp i r (by rw [List.getElem?_eq_getElem hi, he])⟩
  constructor
  · have := Tree.mk (S := (· < w.heap.size)) (w := w) R (R.map Rn.n) (some a) cap rfl (by rw [List.length_map]; omega) ?_ (fun r hr => (hmem r hr).choose_spec.2.1) (fun r hr => (hmem r hr).choose_spec.2.2.1)
    · rw [List.length_map, hR] at this
      exact this
    · intro hx
      rw [ncells_length] at hx
      obtain ⟨y0, hy0⟩ : ∃ y, R[0]? = some y := ⟨_, List.getElem?_eq_getElem (by omega)⟩
      have h00 := (hp 0 y0 hy0).1 0 _ rfl
      obtain ⟨b, o, rfl, hb⟩ := head_addr (a := a) (v := .int .i64 y0.n.kind) (by simpa [Addr.add] using h00)
      refine ⟨b, o, rfl, hb, fun j u hu => ?_⟩
      have hj := (List.getElem?_eq_some_iff.1 hu).1
      rw [ncells_length] at hj
      obtain ⟨y, hy⟩ : ∃ y, R[j / 5]? = some y := ⟨_, List.getElem?_eq_getElem (by omega)⟩
      have hq := (hp (j / 5) y hy).1
      have ha := ncells_at hy
      rcases (show j = j / 5 * 5 ∨ j = j / 5 * 5 + 1 ∨ j = j / 5 * 5 + 2 ∨ j = j / 5 * 5 + 3 ∨ j = j / 5 * 5 + 4 by omega) with hj2 | hj2 | hj2 | hj2 | hj2
      · have := hq 0 _ rfl
        rw [add_none, add_none, Nat.add_assoc, Nat.add_zero, ← hj2] at this
        rw [this]
        rw [← hj2] at ha
        exact ha.1.symm.trans hu
      · have := hq 1 _ rfl
        rw [add_none, add_none, Nat.add_assoc, ← hj2] at this
        rw [this]
        have ha := ha.2.1
        rw [← hj2] at ha
        exact ha.symm.trans hu
      · have := hq 2 _ rfl
        rw [add_none, add_none, Nat.add_assoc, ← hj2] at this
        rw [this]
        have ha := ha.2.2.1
        rw [← hj2] at ha
        exact ha.symm.trans hu
      · have := hq 3 _ rfl
        rw [add_none, add_none, Nat.add_assoc, ← hj2] at this
        rw [this]
        have ha := ha.2.2.2.1
        rw [← hj2] at ha
        exact ha.symm.trans hu
      · have := hq 4 _ rfl
        rw [add_none, add_none, Nat.add_assoc, ← hj2] at this
        rw [this]
        have ha := ha.2.2.2.2
        rw [← hj2] at ha
        exact ha.symm.trans hu
  · refine .mk _ (by rw [List.length_map]; omega) ?_ ?_
    · intro n hn
      obtain ⟨r, hr, rfl⟩ := List.mem_map.1 hn
      exact (hmem r hr).choose_spec.2.2.2.1
    · intro n hn
      obtain ⟨r, hr, rfl⟩ := List.mem_map.1 hn
      exact (hmem r hr).choose_spec.2.2.2.2

theorem open_nodes : ∀ (F fuel : Nat) (v : Value) (x : DataW H × List MemPlace), fuel ≤ F → DataW.trod enc Tryz.prog w base spare held fuel 22 [v] = some x →
    ∃ l : List Nd, Tree (· < w.heap.size) w l v ∧ Fine l := by
  intro F
  induction F with
  | zero =>
    intro fuel v x hF h
    obtain rfl : fuel = 0 := by omega
    simp [DataW.trod] at h
  | succ F ih =>
    intro fuel v x hF h
    have hC : Tryz.prog.cellsOf 35 = 5 := by kernel_rfl
    have C3 : Tryz.prog.cellsOf 3 = 1 := by kernel_rfl
    have C9 : Tryz.prog.cellsOf 9 = 1 := by kernel_rfl
    have CA : Tryz.prog.cellsOf 33 = 1 := by kernel_rfl
    have CN : Tryz.prog.cellsOf 22 = 1 := by kernel_rfl
    rcases DataW.trod_slice Tryz.underlying22 h with ⟨hcs, _⟩ | ⟨a, len, cap, elems, rest, n, hfu, hcs, _, _, hl, hm, hlen, hel, _, _⟩
    · simp at hcs
      subst hcs
      exact ⟨[], Tree.nil _ _, .mk [] (by simp) (by simp) (by simp)⟩
    · simp at hcs
      subst hcs
      rw [hC] at hel
      have key : ∀ i, i < len → ∃ r : Rn, NodeP w a i r := by
        intro i hi
        have e := hel i hi
        rw [List.getElem?_eq_getElem (by omega)] at e
        obtain ⟨cs', h1, h2⟩ := Option.bind_eq_some_iff.1 e
        obtain ⟨_, hcl, hat⟩ := World.cells?_some h1
        obtain ⟨xs, n', hn', _, _, hxl, hf⟩ := DataW.trod_struct Tryz.underlying35 h2
        match cs', hcl with
        | [c0, c1, c2, c3, c4], _ =>
          have f0 : DataW.trod enc Tryz.prog w base spare held n' 3 ((List.drop 0 [c0, c1, c2, c3, c4]).take (Tryz.prog.cellsOf 3)) = xs[0]? := hf 0 _ rfl
          have f1 : DataW.trod enc Tryz.prog w base spare held n' 9 ((List.drop 1 [c0, c1, c2, c3, c4]).take (Tryz.prog.cellsOf 9)) = xs[1]? := hf 1 _ rfl
          have f2 : DataW.trod enc Tryz.prog w base spare held n' 33 ((List.drop 2 [c0, c1, c2, c3, c4]).take (Tryz.prog.cellsOf 33)) = xs[2]? := hf 2 _ rfl
          have f3 : DataW.trod enc Tryz.prog w base spare held n' 9 ((List.drop 3 [c0, c1, c2, c3, c4]).take (Tryz.prog.cellsOf 9)) = xs[3]? := hf 3 _ rfl
          have f4 : DataW.trod enc Tryz.prog w base spare held n' 22 ((List.drop 4 [c0, c1, c2, c3, c4]).take (Tryz.prog.cellsOf 22)) = xs[4]? := hf 4 _ rfl
          rw [C3, List.getElem?_eq_getElem (by rw [hxl]; decide)] at f0
          rw [C9, List.getElem?_eq_getElem (by rw [hxl]; decide)] at f1
          rw [CA, List.getElem?_eq_getElem (by rw [hxl]; decide)] at f2
          rw [C9, List.getElem?_eq_getElem (by rw [hxl]; decide)] at f3
          rw [CN, List.getElem?_eq_getElem (by rw [hxl]; decide)] at f4
          obtain ⟨k0, e0, _, z0⟩ := DataW.trod_int Tryz.underlying3 f0
          obtain ⟨s1, e1, _, z1⟩ := DataW.trod_string Tryz.underlying9 f1
          obtain ⟨s3, e3, _, z3⟩ := DataW.trod_string Tryz.underlying9 f3
          obtain ⟨la, ha1, ha2, ha3⟩ := open_attrs (v := c2) f2
          obtain ⟨lk, hk1, hk2⟩ := ih n' c4 _ (by omega) f4
          simp at e0 e1 e3
          subst e0
          subst e1
          subst e3
          refine ⟨⟨.mk k0 s1 la s3 lk, c2, c4⟩, fun k u hk => ?_, ha1, hk1, ⟨z1, z3, ha2, ha3⟩, hk2⟩
          have hk5 : k < 5 := (List.getElem?_eq_some_iff.1 hk).1
          rw [hat k hk5]
          exact hk
      obtain ⟨R, hR, hp⟩ := list_of len key
      exact ⟨R.map Rn.n, nodes_close hR hl hm hp⟩

end

end Go.Proofs.YthmnnalamaponaaGreat

/- Part OpenK. -/
namespace Go.Proofs.YthmnnalamaponaaGreat
open Go.RowKit Go.ChangeShapes Go.WideShapes Go.ChangeAt
set_option linter.unusedVariables false
set_option maxRecDepth 100000

/-- A token's own parts are no greater than anything may be. -/
structure FineK (k : Tk) : Prop where
  kd : (Lit.int .i64 k.kind).wf = true
  nm : k.name.size ≤ maxLen
  tx : k.text.size ≤ maxLen
  al : k.attrs.length ≤ maxLen
  aa : ∀ a ∈ k.attrs, a.1.size ≤ maxLen ∧ a.2.size ≤ maxLen

/-- A token's kind is a number of the language's. -/
def Kw (k : Tk) : Prop := (Lit.int .i64 k.kind).wf = true

section
variable {H : Type} {enc : TypeId × Value → H} {w : World} {base : Nat} {spare : Nat → Bool} {held : Bool}

/-- What is told of a token at its place. -/
def TokP (w : World) (a : Addr) (i : Nat) (r : Tk × Value) : Prop :=
  (∀ k u, (tcells1 r)[k]? = some u → w.cell? ((a.add (i * 4)).add k) = some u) ∧ AttrsAt (· < w.heap.size) w r.1.attrs r.2 ∧ FineK r.1

theorem toks_close {a : Addr} {len cap : Nat} {R : List (Tk × Value)} (hR : R.length = len) (hl : len ≤ cap) (hm : cap ≤ maxLen) (hp : ∀ i r, R[i]? = some r → TokP w a i r) :
    TokAt (· < w.heap.size) w (R.map (·.1)) (.slice (some a) len cap) ∧ (R.map (·.1)).length ≤ maxLen ∧ ∀ k ∈ R.map (·.1), FineK k := by
  have hmem : ∀ r ∈ R, ∃ i, TokP w a i r := by
    intro r hr
    obtain ⟨i, hi, he⟩ := List.mem_iff_getElem.1 hr
    exact ⟨i, hp i r (by rw [List.getElem?_eq_getElem hi, he])⟩
  refine ⟨⟨R, some a, cap, rfl, by rw [List.length_map, hR], by rw [List.length_map]; omega, ?_, fun r hr => (hmem r hr).choose_spec.2.1⟩, by rw [List.length_map]; omega, ?_⟩
  · intro hx
    rw [tcells_length] at hx
    obtain ⟨y0, hy0⟩ : ∃ y, R[0]? = some y := ⟨_, List.getElem?_eq_getElem (by omega)⟩
    have h00 := (hp 0 y0 hy0).1 0 _ rfl
    obtain ⟨b, o, rfl, hb⟩ := head_addr (a := a) (v := .int .i64 y0.1.kind) (by simpa [Addr.add] using h00)
    refine ⟨b, o, rfl, hb, fun j u hu => ?_⟩
    have hj := (List.getElem?_eq_some_iff.1 hu).1
    rw [tcells_length] at hj
    obtain ⟨y, hy⟩ : ∃ y, R[j / 4]? = some y := ⟨_, List.getElem?_eq_getElem (by omega)⟩
    have hq := (hp (j / 4) y hy).1
    have ha := tcells_at hy
    rcases (show j = j / 4 * 4 ∨ j = j / 4 * 4 + 1 ∨ j = j / 4 * 4 + 2 ∨ j = j / 4 * 4 + 3 by omega) with hj2 | hj2 | hj2 | hj2
    · have := hq 0 _ rfl
      rw [add_none, add_none, Nat.add_assoc, Nat.add_zero, ← hj2] at this
      rw [this]
      have ha := ha.1
      rw [← hj2] at ha
      exact ha.symm.trans hu
    · have := hq 1 _ rfl
      rw [add_none, add_none, Nat.add_assoc, ← hj2] at this
      rw [this]
      have ha := ha.2.1
      rw [← hj2] at ha
      exact ha.symm.trans hu
    · have := hq 2 _ rfl
      rw [add_none, add_none, Nat.add_assoc, ← hj2] at this
      rw [this]
      have ha := ha.2.2.1
      rw [← hj2] at ha
      exact ha.symm.trans hu
    · have := hq 3 _ rfl
      rw [add_none, add_none, Nat.add_assoc, ← hj2] at this
      rw [this]
      have ha := ha.2.2.2
      rw [← hj2] at ha
      exact ha.symm.trans hu
  · intro n hn
    obtain ⟨r, hr, rfl⟩ := List.mem_map.1 hn
    exact (hmem r hr).choose_spec.2.2

theorem open_tokens {fuel : Nat} {v : Value} {x : DataW H × List MemPlace} (h : DataW.trod enc Tryz.prog w base spare held fuel 125 [v] = some x) :
    ∃ l : List Tk, TokAt (· < w.heap.size) w l v ∧ l.length ≤ maxLen ∧ ∀ k ∈ l, FineK k := by
  have hC : Tryz.prog.cellsOf 129 = 4 := by kernel_rfl
  have C3 : Tryz.prog.cellsOf 3 = 1 := by kernel_rfl
  have C9 : Tryz.prog.cellsOf 9 = 1 := by kernel_rfl
  have CA : Tryz.prog.cellsOf 33 = 1 := by kernel_rfl
  rcases DataW.trod_slice Tryz.underlying125 h with ⟨hcs, _⟩ | ⟨a, len, cap, elems, rest, n, hfu, hcs, _, _, hl, hm, hlen, hel, _, _⟩
  · simp at hcs
    subst hcs
    exact ⟨[], TokAt.nil _ _, by simp, by simp⟩
  · simp at hcs
    subst hcs
    rw [hC] at hel
    have key : ∀ i, i < len → ∃ r : Tk × Value, TokP w a i r := by
      intro i hi
      have e := hel i hi
      rw [List.getElem?_eq_getElem (by omega)] at e
      obtain ⟨cs', h1, h2⟩ := Option.bind_eq_some_iff.1 e
      obtain ⟨_, hcl, hat⟩ := World.cells?_some h1
      obtain ⟨xs, n', hn', _, _, hxl, hf⟩ := DataW.trod_struct Tryz.underlying129 h2
      match cs', hcl with
      | [c0, c1, c2, c3], _ =>
        have f0 : DataW.trod enc Tryz.prog w base spare held n' 3 ((List.drop 0 [c0, c1, c2, c3]).take (Tryz.prog.cellsOf 3)) = xs[0]? := hf 0 _ rfl
        have f1 : DataW.trod enc Tryz.prog w base spare held n' 9 ((List.drop 1 [c0, c1, c2, c3]).take (Tryz.prog.cellsOf 9)) = xs[1]? := hf 1 _ rfl
        have f2 : DataW.trod enc Tryz.prog w base spare held n' 33 ((List.drop 2 [c0, c1, c2, c3]).take (Tryz.prog.cellsOf 33)) = xs[2]? := hf 2 _ rfl
        have f3 : DataW.trod enc Tryz.prog w base spare held n' 9 ((List.drop 3 [c0, c1, c2, c3]).take (Tryz.prog.cellsOf 9)) = xs[3]? := hf 3 _ rfl
        rw [C3, List.getElem?_eq_getElem (by rw [hxl]; decide)] at f0
        rw [C9, List.getElem?_eq_getElem (by rw [hxl]; decide)] at f1
        rw [CA, List.getElem?_eq_getElem (by rw [hxl]; decide)] at f2
        rw [C9, List.getElem?_eq_getElem (by rw [hxl]; decide)] at f3
        obtain ⟨k0, e0, _, z0⟩ := DataW.trod_int Tryz.underlying3 f0
        obtain ⟨s1, e1, _, z1⟩ := DataW.trod_string Tryz.underlying9 f1
        obtain ⟨s3, e3, _, z3⟩ := DataW.trod_string Tryz.underlying9 f3
        obtain ⟨la, ha1, ha2, ha3⟩ := open_attrs (v := c2) f2
        simp at e0 e1 e3
        subst e0
        subst e1
        subst e3
        refine ⟨⟨⟨k0, s1, la, s3⟩, c2⟩, fun k u hk => ?_, ha1, ⟨z0, z1, z3, ha2, ha3⟩⟩
        have hk4 : k < 4 := (List.getElem?_eq_some_iff.1 hk).1
        rw [hat k hk4]
        exact hk
    obtain ⟨R, hR, hp⟩ := list_of len key
    exact ⟨R.map (·.1), toks_close hR hl hm hp⟩

end

end Go.Proofs.YthmnnalamaponaaGreat

/- Part TreeL. -/
namespace Go.Proofs.YthmnnalamaponaaGreat
open Go.RowKit
set_option linter.unusedVariables false

/-- An element with one attribute and one text. -/
def elt (an av nm kt : ByteArray) : Nd := .mk 1 nm [(an, av)] ⟨#[]⟩ [.mk 2 ⟨#[]⟩ [] kt []]
def bareE (nm : ByteArray) : Nd := .mk 1 nm [] ⟨#[]⟩ []
def WL (w : World) (an av nm kt : ByteArray) : World :=
  ((w.alloc (.cells #[.string an, .string av] 39)).alloc (.cells #[.int .i64 2, .string ⟨#[]⟩, .slice none 0 0, .string kt, .slice none 0 0] 35)).alloc
    (.cells #[.int .i64 1, .string nm, .slice (some ⟨w.heap.size, 0, none⟩) 1 1, .string ⟨#[]⟩, .slice (some ⟨w.heap.size + 1, 0, none⟩) 1 1] 35)

theorem lit_cells {w : World} {b : Nat} {cs : Array Value} (h : ∀ j, j < cs.size → w.cell? ⟨b, j, none⟩ = cs[j]?) (hb : b < w.heap.size) (xs : List Value) (hx : cs.toList = xs) : Cells (· < w.heap.size) w (some ⟨b, 0, none⟩) xs := by
  intro _
  refine ⟨b, 0, rfl, hb, fun j u hu => ?_⟩
  rw [Nat.zero_add, h j (by rw [← hx] at hu; simpa using (List.getElem?_eq_some_iff.1 hu).1), ← hu, ← hx]
  simp

theorem tree_elt (w : World) (an av nm kt : ByteArray) : Tree (· < (WL w an av nm kt).heap.size) (WL w an av nm kt) [elt an av nm kt] (.slice (some ⟨w.heap.size + 2, 0, none⟩) 1 1) := by
  have hs : (WL w an av nm kt).heap.size = w.heap.size + 3 := by simp [WL]
  have ca : AttrsAt (· < (WL w an av nm kt).heap.size) (WL w an av nm kt) [(an, av)] (.slice (some ⟨w.heap.size, 0, none⟩) 1 1) :=
    ⟨_, 1, rfl, Nat.le_refl _, lit_cells (cs := #[.string an, .string av]) (fun j hj => by
      unfold WL
      rw [World.cell?_alloc_past _ _ _ (by simp; omega), World.cell?_alloc_past _ _ _ (by simp), World.cell?_alloc_mark]) (by omega) _ rfl⟩
  have ck : Tree (· < (WL w an av nm kt).heap.size) (WL w an av nm kt) [.mk 2 ⟨#[]⟩ [] kt []] (.slice (some ⟨w.heap.size + 1, 0, none⟩) 1 1) :=
    .mk [⟨.mk 2 ⟨#[]⟩ [] kt [], .slice none 0 0, .slice none 0 0⟩] _ _ 1 rfl (Nat.le_refl _) (lit_cells (cs := #[.int .i64 2, .string ⟨#[]⟩, .slice none 0 0, .string kt, .slice none 0 0]) (fun j hj => by
      unfold WL
      rw [World.cell?_alloc_past _ _ _ (by simp)]
      have := World.cell?_alloc_mark (w.alloc (.cells #[.string an, .string av] 39)) #[.int .i64 2, .string ⟨#[]⟩, .slice none 0 0, .string kt, .slice none 0 0] 35 (0, 0) j
      rwa [World.size_alloc] at this) (by omega) _ rfl)
      (fun r hr => by simp at hr; subst hr; exact AttrsAt.nil _ _) (fun r hr => by simp at hr; subst hr; exact Tree.nil _ _)
  exact .mk [⟨elt an av nm kt, .slice (some ⟨w.heap.size, 0, none⟩) 1 1, .slice (some ⟨w.heap.size + 1, 0, none⟩) 1 1⟩] _ _ 1 rfl (Nat.le_refl _) (lit_cells (cs := #[.int .i64 1, .string nm, .slice (some ⟨w.heap.size, 0, none⟩) 1 1, .string ⟨#[]⟩, .slice (some ⟨w.heap.size + 1, 0, none⟩) 1 1]) (fun j hj => by
      unfold WL
      have := World.cell?_alloc_mark ((w.alloc (.cells #[.string an, .string av] 39)).alloc (.cells #[.int .i64 2, .string ⟨#[]⟩, .slice none 0 0, .string kt, .slice none 0 0] 35)) #[.int .i64 1, .string nm, .slice (some ⟨w.heap.size, 0, none⟩) 1 1, .string ⟨#[]⟩, .slice (some ⟨w.heap.size + 1, 0, none⟩) 1 1] 35 (0, 0) j
      rwa [World.size_alloc, World.size_alloc] at this) (by omega) _ rfl)
      (fun r hr => by simp at hr; subst hr; exact ca) (fun r hr => by simp at hr; subst hr; exact ck)

theorem tree_bare (w : World) (nm : ByteArray) : Tree (· < w.heap.size + 1) (w.alloc (.cells #[.int .i64 1, .string nm, .slice none 0 0, .string ⟨#[]⟩, .slice none 0 0] 35)) [bareE nm] (.slice (some ⟨w.heap.size, 0, none⟩) 1 1) := by
  have h := lit_cells (w := w.alloc (.cells #[.int .i64 1, .string nm, .slice none 0 0, .string ⟨#[]⟩, .slice none 0 0] 35)) (b := w.heap.size) (cs := #[.int .i64 1, .string nm, .slice none 0 0, .string ⟨#[]⟩, .slice none 0 0]) (fun j _ => World.cell?_alloc_mark _ _ _ _ _) (by simp) _ rfl
  rw [World.size_alloc] at h
  exact .mk [⟨bareE nm, .slice none 0 0, .slice none 0 0⟩] _ _ 1 rfl (Nat.le_refl _) h (fun r hr => by simp at hr; subst hr; exact AttrsAt.nil _ _) (fun r hr => by simp at hr; subst hr; exact Tree.nil _ _)

theorem below_WL (w : World) (an av nm kt : ByteArray) : Below w.heap.size w (WL w an av nm kt) := (((Below.refl _ w).alloc (Nat.le_refl _) _).alloc (by simp) _).alloc (by simp; omega) _

end Go.Proofs.YthmnnalamaponaaGreat

/- Part Laid. -/
namespace Go.Proofs.YthmnnalamaponaaGreat
open Go.RowKit
set_option linter.unusedVariables false

theorem cells_here {S : Nat → Prop} {W : World} {k : Nat} {cs : Array Value} {t : TypeId} (h : W.heap[k]? = some (.cells cs t (0, 0))) (hS : S k) (xs : List Value) (hx : cs.toList = xs) : Cells S W (some ⟨k, 0, none⟩) xs := by
  intro _
  refine ⟨k, 0, rfl, hS, fun j u hu => ?_⟩
  rw [Nat.zero_add, cell_at h j, ← hu, ← hx]
  simp
theorem attr_here {S : Nat → Prop} {W : World} {k : Nat} {an av : ByteArray} {t : TypeId} (h : W.heap[k]? = some (.cells #[.string an, .string av] t (0, 0))) (hS : S k) : AttrsAt S W [(an, av)] (.slice (some ⟨k, 0, none⟩) 1 1) :=
  ⟨_, 1, rfl, Nat.le_refl _, cells_here h hS _ rfl⟩
theorem kid_here {S : Nat → Prop} {W : World} {k : Nat} {kt : ByteArray} {t : TypeId} (h : W.heap[k]? = some (.cells #[.int .i64 2, .string ⟨#[]⟩, .slice none 0 0, .string kt, .slice none 0 0] t (0, 0))) (hS : S k) :
    Tree S W [.mk 2 ⟨#[]⟩ [] kt []] (.slice (some ⟨k, 0, none⟩) 1 1) :=
  .mk [⟨.mk 2 ⟨#[]⟩ [] kt [], .slice none 0 0, .slice none 0 0⟩] _ _ 1 rfl (Nat.le_refl _) (cells_here h hS _ rfl) (fun r hr => by simp at hr; subst hr; exact AttrsAt.nil _ _) (fun r hr => by simp at hr; subst hr; exact Tree.nil _ _)

/-- All that one node more wants to know. -/
structure Laid (W : World) (base : Nat) (g : List Nd) (v : Value) (r : Rn) (ad : Addr) : Prop where
  own : OwnC W base base g v
  news : ∀ j u, (ncells1 r)[j]? = some u → W.cell? (ad.add j) = some u
  at_ : AttrsAt (Sub base W v) W r.n.attrs r.va
  kids : Tree (Sub base W v) W r.n.kids r.vk
  le : base ≤ W.heap.size

def eltR (an av nm kt : ByteArray) (α β : Nat) : Rn := ⟨elt an av nm kt, .slice (some ⟨α, 0, none⟩) 1 1, .slice (some ⟨β, 0, none⟩) 1 1⟩
def oAt (an av : ByteArray) : Obj := .cells #[.string an, .string av] 39
def oKid (kt : ByteArray) : Obj := .cells #[.int .i64 2, .string ⟨#[]⟩, .slice none 0 0, .string kt, .slice none 0 0] 35
def oElt (nm : ByteArray) (α β : Nat) : Obj := .cells #[.int .i64 1, .string nm, .slice (some ⟨α, 0, none⟩) 1 1, .string ⟨#[]⟩, .slice (some ⟨β, 0, none⟩) 1 1] 35

theorem laid_of {W0 W : World} {base : Nat} {g : List Nd} {v : Value} (h : OwnC W0 base base g v) (hb : base ≤ W0.heap.size) (hB : Below W0.heap.size W0 W) (an av nm kt : ByteArray) {α β γ : Nat}
    (hα : W.heap[α]? = some (.cells #[.string an, .string av] 39 (0, 0))) (hβ : W.heap[β]? = some (.cells #[.int .i64 2, .string ⟨#[]⟩, .slice none 0 0, .string kt, .slice none 0 0] 35 (0, 0)))
    (hγ : W.heap[γ]? = some (.cells #[.int .i64 1, .string nm, .slice (some ⟨α, 0, none⟩) 1 1, .string ⟨#[]⟩, .slice (some ⟨β, 0, none⟩) 1 1] 35 (0, 0)))
    (h1 : W0.heap.size ≤ α) (h2 : W0.heap.size ≤ β) : Laid W base g v (eltR an av nm kt α β) ⟨γ, 0, none⟩ := by
  have lt : ∀ {k : Nat} {o : Obj}, W.heap[k]? = some o → k < W.heap.size := fun h => (Array.getElem?_eq_some_iff.1 h).1
  have sub : ∀ k, W0.heap.size ≤ k → k < W.heap.size → Sub base W v k := by
    intro k h0 hk
    refine ⟨by omega, hk, fun e => ?_⟩
    have := (OwnT.lt h k e).2
    omega
  refine ⟨h.later hB, fun j u hu => ?_, attr_here hα (sub _ h1 (lt hα)), kid_here hβ (sub _ h2 (lt hβ)), Nat.le_trans hb hB.size⟩
  rw [add_zero_addr, cell_at hγ j]
  have hu' : [Value.int IntKind.i64 1, Value.string nm, Value.slice (some ⟨α, 0, none⟩) 1 1, Value.string ⟨#[]⟩, Value.slice (some ⟨β, 0, none⟩) 1 1][j]? = some u := hu
  simpa using hu'

theorem alloc_past {W : World} {o : Obj} {k : Nat} {x : Obj} (h : W.heap[k]? = some x) : (W.alloc o).heap[k]? = some x := by
  have hlt : k < W.heap.size := (Array.getElem?_eq_some_iff.1 h).1
  exact (Below.heap_alloc W o k hlt).trans h
theorem alloc_here' {W : World} {k : Nat} {cs : Array Value} {t : TypeId} (h : W.heap.size = k) : (W.alloc (.cells cs t)).heap[k]? = some (.cells cs t (0, 0)) := by subst h; exact box_here W cs t

theorem below1 (w : World) (a : Obj) : Below w.heap.size w (w.alloc a).drew := ((Below.refl _ w).alloc (Nat.le_refl _) _).drew
theorem below2 (w : World) (a b : Obj) : Below w.heap.size w ((w.alloc a).alloc b).drew := (((Below.refl _ w).alloc (Nat.le_refl _) _).alloc (by simp) _).drew
theorem below3 (w : World) (a b c : Obj) : Below w.heap.size w (((w.alloc a).alloc b).alloc c).drew := ((((Below.refl _ w).alloc (Nat.le_refl _) _).alloc (by simp) _).alloc (by simp; omega) _).drew

theorem laid1 {w : World} {base : Nat} {g : List Nd} {v : Value} (h : OwnC w base base g v) (hb : base ≤ w.heap.size) (an av nm kt : ByteArray) :
    Laid (((w.alloc (oAt an av)).alloc (oKid kt)).alloc (oElt nm w.heap.size (w.heap.size + 1))).drew base g v (eltR an av nm kt w.heap.size (w.heap.size + 1)) ⟨w.heap.size + 2, 0, none⟩ := by
  have h1 : (((w.alloc (oAt an av)).alloc (oKid kt)).alloc (oElt nm w.heap.size (w.heap.size + 1))).heap[w.heap.size]? = _ := alloc_past (alloc_past (alloc_here' rfl))
  have h2 : (((w.alloc (oAt an av)).alloc (oKid kt)).alloc (oElt nm w.heap.size (w.heap.size + 1))).heap[w.heap.size + 1]? = _ := alloc_past (alloc_here' (by simp))
  have h3 : (((w.alloc (oAt an av)).alloc (oKid kt)).alloc (oElt nm w.heap.size (w.heap.size + 1))).heap[w.heap.size + 2]? = _ := alloc_here' (by simp)
  exact laid_of h hb (below3 _ _ _ _) an av nm kt h1 h2 h3 (Nat.le_refl _) (by omega)
theorem laid2 {w : World} {base : Nat} {g : List Nd} {v : Value} (h : OwnC w base base g v) (hb : base ≤ w.heap.size) (an av nm kt : ByteArray) :
    Laid (((w.alloc (oKid kt)).alloc (oAt an av)).alloc (oElt nm (w.heap.size + 1) w.heap.size)).drew base g v (eltR an av nm kt (w.heap.size + 1) w.heap.size) ⟨w.heap.size + 2, 0, none⟩ := by
  have h1 : (((w.alloc (oKid kt)).alloc (oAt an av)).alloc (oElt nm (w.heap.size + 1) w.heap.size)).heap[w.heap.size + 1]? = _ := alloc_past (alloc_here' (by simp))
  have h2 : (((w.alloc (oKid kt)).alloc (oAt an av)).alloc (oElt nm (w.heap.size + 1) w.heap.size)).heap[w.heap.size]? = _ := alloc_past (alloc_past (alloc_here' rfl))
  have h3 : (((w.alloc (oKid kt)).alloc (oAt an av)).alloc (oElt nm (w.heap.size + 1) w.heap.size)).heap[w.heap.size + 2]? = _ := alloc_here' (by simp)
  exact laid_of h hb (below3 _ _ _ _) an av nm kt h1 h2 h3 (by omega) (Nat.le_refl _)

/-- A cell of what came in, behind the append. -/
theorem far_in {w wr W w4 : World} {g : List Nd} {v : Value} (h : OwnC wr w.heap.size w.heap.size g v) (hb : Below wr.heap.size wr W) (hg : W.grownBy w4 v.ownBlock) {p : Addr} (hp : p.block < w.heap.size) (hw : w.heap.size ≤ wr.heap.size) : w4.cell? p = wr.cell? p := by
  refine (World.cell?_of_block (hg.block p.block (Nat.lt_of_lt_of_le (Nat.lt_of_lt_of_le hp hw) hb.size) (fun e => ?_))).trans (hb.cell (Nat.lt_of_lt_of_le hp hw))
  have := (OwnT.lt h _ e.symm).1
  omega

end Go.Proofs.YthmnnalamaponaaGreat

/- Part CutT. -/
namespace Go.Proofs.YthmnnalamaponaaGreat
open Go.RowKit
set_option linter.unusedVariables false

/-- One node without kids, where it lies. -/
theorem one_here {S : Nat → Prop} {W : World} {k : Nat} {kd : Int} {nm tx : ByteArray} {al : List (ByteArray × ByteArray)} {va : Value} {t : TypeId} (h : W.heap[k]? = some (.cells #[.int .i64 kd, .string nm, va, .string tx, .slice none 0 0] t (0, 0))) (hS : S k) (ha : AttrsAt S W al va) :
    Tree S W [.mk kd nm al tx []] (.slice (some ⟨k, 0, none⟩) 1 1) :=
  .mk [⟨.mk kd nm al tx [], va, .slice none 0 0⟩] _ _ 1 rfl (Nat.le_refl _) (cells_here h hS _ rfl) (fun r hr => by simp at hr; subst hr; exact ha) (fun r hr => by simp at hr; subst hr; exact Tree.nil _ _)

/-- A new token's cells, behind a draw. -/
theorem new_four_drew (w : World) (t : TypeId) (k : Tk) (va : Value) : ∀ j u, (tcells1 (k, va))[j]? = some u → (w.alloc (.cells #[.int .i64 k.kind, .string k.name, va, .string k.text] t)).drew.cell? ((⟨w.heap.size, 0, none⟩ : Addr).add j) = some u :=
  fun j u h => (new_four w t k va j u h)

/-- One token more, at a step of a region that draws its order. -/
theorem step_append_tok {w : World} {ops : Array Oper} {o : Oper} {a : Act} {K : Act → World → Prop} {Q : Exit → Act → World → Prop} {E : Prop} (hgd : o.guard = none) (s x : Operand)
    (ho : o.op = .call { callee := .builtin .append, args := #[s, x], argTypes := #[125, 125] })
    (lo : Nat) (l : List Tk) (v : Value) (hs : a.eval s = v) (h : OwnK5 w lo l v) (r : Tk × Value) (ad : Addr) (c : Nat) (hx : a.eval x = .slice (some ad) 1 c)
    (hnews : ∀ j u, (tcells1 r)[j]? = some u → w.cell? (ad.add j) = some u) (hat : AttrsAt (Sub lo w v) w r.1.attrs r.2)
    (hlen : l.length ≤ 4000000) (hbase : lo ≤ w.heap.size)
    (hK : ∀ v' w', OwnK5 w' lo (l ++ [r.1]) v' → w.grownBy w' v.ownBlock → K (a.put o.dst v') w') :
    if Region.wanted o (yielded ops a.tmps) = true then Oper.wp Tryz.prog o a w K Q else E := by
  have hw : Region.wanted o (yielded ops a.tmps) = true := by simp [Region.wanted, hgd]
  rw [if_pos hw]
  exact wp_append_tok s x ho lo l v hs h r ad c hx hnews hat hlen hbase hK

theorem far_tok {wr W w4 : World} {lo : Nat} {l : List Tk} {v : Value} (h : OwnK5 wr lo l v) (hg : W.grownBy w4 v.ownBlock) {p : Addr} (hp : p.block < W.heap.size) (hne : p.block < lo ∨ wr.heap.size ≤ p.block) : w4.cell? p = W.cell? p :=
  World.cell?_of_block (hg.block p.block hp (fun e => by have := h.lt _ e.symm; omega))

/-- What Cut tells. -/
def CutTRet (w : World) (e : Ending) (w' : World) : Prop :=
  ∃ (out : List Tk) (v' : Value), e = .returned v' ∧ OwnK5 w' w.heap.size out v' ∧ out.length ≤ 40 ∧ szKs out ≤ 16800 ∧ (∀ k ∈ out, Kw k) ∧ Below w.heap.size w w'

structure CutTAt (w wr : World) (l : List Tk) (k : Nat) (out : List Tk) (v : Value) : Prop where
  le : k ≤ l.length
  k40 : k ≤ 40
  ln : out.length = k
  sz : szKs out ≤ 420 * k
  kw : ∀ q ∈ out, Kw q
  own : OwnK5 wr w.heap.size out v
  bel : Below w.heap.size w wr
def CutTRel (w : World) (l : List Tk) (x y : Value) (wr : World) : Prop := ∃ (k : Nat) (out : List Tk), y = .int .i64 k ∧ CutTAt w wr l k out x

end Go.Proofs.YthmnnalamaponaaGreat

/- Part BldC. -/
namespace Go.Proofs.YthmnnalamaponaaGreat
open Go.RowKit
set_option linter.unusedVariables false

/-- Tree tells the document's tree. -/
def TreesSaid : Prop := ∀ (l : List Tk) (v : Value) (w : World), Glob w → TokAt (· < w.heap.size) w l v → (∀ k ∈ l, Kw k) → szKs l ≤ 40000000 →
  Calls Tryz.prog 174 #[v] w fun e w' => ∃ v', e = .returned v' ∧ Tree (· < w'.heap.size) w' (treeB l) v' ∧ Below w.heap.size w w'

/-- A token, as a value. -/
def tokV (k : Tk) (va : Value) : Value := .agg #[.int .i64 k.kind, .string k.name, va, .string k.text]
/-- The builder of which tokens were built. -/
def bldB (ts : List Tk) : Bst := ts.foldl putB ⟨[], []⟩
def opensB (ts : List Tk) : List ByteArray := (bldB ts).fs.reverse.map Fr.name

/-- The attributes of a list's nodes may be written. -/
def Thaw (w : World) (l : List Nd) (v : Value) : Prop := ∀ g k b o n c, k < l.length → v.ownBlock = some g → w.cell? ⟨g, k * 5 + 2, none⟩ = some (.slice (some ⟨b, o, none⟩) n c) → ∀ j, j < n * 2 → w.frozen? ⟨b, o + j, none⟩ = false

def l7T : List Tk := [⟨1, tB [112], [], ⟨#[]⟩⟩, ⟨3, ⟨#[]⟩, [], tB [120]⟩, ⟨1, tB [100, 105, 118], [], ⟨#[]⟩⟩]
def l7N : List Nd := [.mk 1 (tB [112]) [] (tB []) [.mk 2 (tB []) [] (tB [120]) []], .mk 1 (tB [100, 105, 118]) [] (tB []) []]
theorem l7_nodes : nodesB (bldB l7T) = l7N := by kernel_rfl
theorem l7_open : opensB l7T = [tB [100, 105, 118]] := by kernel_rfl

end Go.Proofs.YthmnnalamaponaaGreat

/- Part NamD. -/
namespace Go.Proofs.YthmnnalamaponaaGreat
open Go.RowKit
set_option linter.unusedVariables false

set_option maxHeartbeats 1000000 in
theorem void_any (s : ByteArray) (w : World) :
    Calls Tryz.prog 87 #[.string s] w fun e w' => e = .returned (.bool (voidB s.data.toList)) ∧ w = w' := by
  have h1 := eqs s [98, 114]
  have h2 := eqs s [104, 114]
  have h3 := eqs s [105, 109, 103]
  have h4 := eqs s [105, 110, 112, 117, 116]
  have h5 := eqs s [119, 98, 114]
  obtain ⟨q1, e1⟩ : ∃ q, decide (s.data.toList = [98, 114]) = q := ⟨_, rfl⟩
  obtain ⟨q2, e2⟩ : ∃ q, decide (s.data.toList = [104, 114]) = q := ⟨_, rfl⟩
  obtain ⟨q3, e3⟩ : ∃ q, decide (s.data.toList = [105, 109, 103]) = q := ⟨_, rfl⟩
  obtain ⟨q4, e4⟩ : ∃ q, decide (s.data.toList = [105, 110, 112, 117, 116]) = q := ⟨_, rfl⟩
  obtain ⟨q5, e5⟩ : ∃ q, decide (s.data.toList = [119, 98, 114]) = q := ⟨_, rfl⟩
  have HF := Lib.hid (show voidB s.data.toList = (q1 || q2 || q3 || q4 || q5) by unfold voidB; rw [e1, e2, e3, e4, e5])
  rw [e1] at h1
  rw [e2] at h2
  rw [e3] at h3
  rw [e4] at h4
  rw [e5] at h5
  clear e1 e2 e3 e4 e5
  cases q1
  case' false => cases q2
  case' false.false => cases q3
  case' false.false.false => cases q4
  case' false.false.false.false => cases q5
  all_goals
    go_enter Tryz.func87, Tryz.ntmps87
    go_wp2
    go_ret
    exact ⟨by rw [HF.out]; first | rfl | (simp only [Bool.true_or, Bool.false_or]; rfl), rfl⟩

end Go.Proofs.YthmnnalamaponaaGreat
