/- Parts of the proof, in build order: NamW TkS Open TokZ NamL NamA ValR. -/
import Derived.Test.YtialfafjoemppaaK07
import Derived.Test.YtialfafjoemppaaK12
import Derived.Test.YtialfafjoemppaaK01
import Derived.Test.YtialfafjoemppaaK06
import Derived.ProofKit
import Derived.OpenShut
import Derived.Test.YtialfafjoemppaaK05
import Derived.Test.YtialfafjoemppaaK02

/- Part NamW. -/
namespace Go.Proofs.Ytialfafjoemppaa
open Go.RowKit
set_option linter.unusedVariables false

set_option maxHeartbeats 400000 in
theorem raw_any (s : ByteArray) (w : World) :
    Calls Try.prog 26 #[.string s] w fun e w' => e = .returned (.bool (rawB s.data.toList)) ∧ w = w' := by
  have h1 := eqs s [115, 99, 114, 105, 112, 116]
  have h2 := eqs s [115, 116, 121, 108, 101]
  obtain ⟨q1, e1⟩ : ∃ q, decide (s.data.toList = [115, 99, 114, 105, 112, 116]) = q := ⟨_, rfl⟩
  obtain ⟨q2, e2⟩ : ∃ q, decide (s.data.toList = [115, 116, 121, 108, 101]) = q := ⟨_, rfl⟩
  have HF := Lib.hid (show rawB s.data.toList = (q1 || q2) by unfold rawB; rw [e1, e2])
  rw [e1] at h1
  rw [e2] at h2
  clear e1 e2
  cases q1 <;> cases q2
  all_goals
    go_enter Try.func26, Try.ntmps26
    go_wp2
    go_ret
    exact ⟨by rw [HF.out]; rfl, rfl⟩

end Go.Proofs.Ytialfafjoemppaa

/- Part TkS. -/
namespace Go.Proofs.Ytialfafjoemppaa
open Go.RowKit
set_option linter.unusedVariables false

structure TksAt (w wr : World) (l : List UInt8) (s : ByteArray) (toks : List Tk) (v : Value) : Prop where
  is : tokB l = toks ++ tokB s.data.toList
  len : toks.length + 2 * s.size ≤ 2 * l.length
  own : OwnK5 wr w.heap.size toks v
  bel : Below w.heap.size w wr

/-- A token has come: the list stands, and so do the token's attributes. -/
theorem tok_ready {w wr w2 : World} {toks : List Tk} {v va : Value} {al : List (ByteArray × ByteArray)} (hown : OwnK5 wr w.heap.size toks v) (hbel : Below w.heap.size w wr) (hb : Below wr.heap.size wr w2)
    (hat : AttrsAt (fun b => wr.heap.size ≤ b ∧ b < w2.heap.size) w2 al va) (W : World) (hW : Below w2.heap.size w2 W) :
    OwnK5 W w.heap.size toks v ∧ AttrsAt (Sub w.heap.size W v) W al va ∧ Below w.heap.size w W := by
  have hbW := below_after hb hW
  refine ⟨hown.later hbW, ?_, below_after hbel hbW⟩
  refine (hat.keep (Kept.below hW fun b hb => hb.2)).mono fun b hb => ⟨by have := hbel.size; omega, Nat.lt_of_lt_of_le hb.2 hW.size, fun e => ?_⟩
  have := (hown.lt b e).2
  omega
theorem set4k {B k : Nat} {a W : World} (h : Below B a W) (hk : B ≤ k) (x y z u : Value) : Below B a ((((W.setCell ⟨k, 0, none⟩ x).setCell ⟨k, 1, none⟩ y).setCell ⟨k, 2, none⟩ z).setCell ⟨k, 3, none⟩ u) :=
  (((h.setCell (p := ⟨k, 0, none⟩) hk _).setCell (p := ⟨k, 1, none⟩) hk _).setCell (p := ⟨k, 2, none⟩) hk _).setCell (p := ⟨k, 3, none⟩) hk _
theorem box_set4 {W : World} {k : Nat} {p q r s : Value} {ty : TypeId} (h : W.heap[k]? = some (.cells #[p, q, r, s] ty (0, 0))) (x y z u : Value) :
    ((((W.setCell ⟨k, 0, none⟩ x).setCell ⟨k, 1, none⟩ y).setCell ⟨k, 2, none⟩ z).setCell ⟨k, 3, none⟩ u).heap[k]? = some (.cells #[x, y, z, u] ty (0, 0)) := by
  have h0 := heap_setCell_same _ k 0 _ _ x h
  have h1 := heap_setCell_same _ k 1 _ _ y h0
  have h2 := heap_setCell_same _ k 2 _ _ z h1
  have h3 := heap_setCell_same _ k 3 _ _ u h2
  simpa using h3
/-- A block of the call's own stays, behind the append. -/
theorem tok_still {W w5 : World} {k : Nat} {cs : Array Value} {ty : TypeId} {v : Value} (hbx : W.heap[k]? = some (.cells cs ty (0, 0))) (hg : W.grownBy w5 v.ownBlock) (hv : v.ownBlock ≠ some k) : w5.heap[k]? = some (.cells cs ty (0, 0)) :=
  (hg.block k (Array.getElem?_eq_some_iff.1 hbx).1 (fun e => hv e.symm)).trans hbx

set_option maxHeartbeats 4000000 in
set_option maxRecDepth 100000 in
theorem tokens_any (s : ByteArray) (w : World) (HG : Glob w) (hm : s.size ≤ 1000000) : Calls Try.prog 12 #[.string s] w (ToksRet s w) := by
  obtain ⟨l, hl⟩ : ∃ l, s.data.toList = l := ⟨_, rfl⟩
  have hsz : s.size = l.length := by rw [← hl]; simp
  have HSL := Lib.hid hl
  have HSZ := Lib.hid hsz
  have hll : l.length ≤ 1000000 := by omega
  clear hl hsz
  go_enter Try.func12, Try.ntmps12
  go_wp2_with fail
  go_loopw [0, 3] (fun x y wr => ∃ (t : ByteArray) (toks : List Tk) (v : Value), x = .string t ∧ y = v ∧ TksAt w wr l t toks v) (fun x _ _ => match x with | .string t => t.size | _ => 0)
  case atStart => exact ⟨s, [], _, rfl, rfl, by rw [HSL.out]; rfl, by rw [HSZ.out]; simp, OwnK5.nil _ _, Below.refl _ _⟩
  case round =>
    obtain ⟨t, toks, v, rfl, rfl, HR⟩ := hrel
    obtain ⟨S, hS⟩ : ∃ S, t.data.toList = S := ⟨_, rfl⟩
    have htz : t.size = S.length := by rw [← hS]; simp
    have hbe := eqs t []
    rw [hS] at hbe
    have hlen := HR.len
    have hbel := HR.bel
    have HIS := Lib.hid HR.is
    rw [hS] at HIS
    have HOWN := Lib.hid HR.own
    have HS := Lib.hid hS
    have HTZ := Lib.hid htz
    have ht6 : t.size ≤ 1000000 := by omega
    have htk : toks.length ≤ 2000000 := by omega
    have HGR := HG.below hbel
    have hwz := hbel.size
    obtain ⟨A0, c0, rfl, hc0⟩ := HR.own.shape
    clear HR hS htz
    cases S with
    | nil =>
      have B0 : t.toList.isEmpty = true := by rw [Lib.toList_data, HS.out]; rfl
      clear hbe
      go_wp2_with fail
      go_ret
      rw [tokB_nil, List.append_nil] at HIS
      refine ⟨_, rfl, ?_, hbel⟩
      rw [HSL.out, HIS.out]
      exact HOWN.out.tokAt
    | cons x r =>
      have B0 : t.toList.isEmpty = false := by rw [Lib.toList_data, HS.out]; rfl
      clear hbe
      cases hst : startsB (x :: r) with
      | true =>
        have htl := tagB_len hst
        have hkd := fun k h => tagB_kind hst (k := k) h
        have htn := fun h => tokB_none hst h
        have htt := fun (k : Tk) h1 h2 => tokB_tag hst (k := k) h1 h2
        have htr := fun (k : Tk) h1 h2 => tokB_raw hst (k := k) h1 h2
        have hcall := fun W (h : Glob W) => tag_any t W ht6 h (by rw [HS.out]; exact hst)
        rw [HS.out] at hcall
        obtain ⟨T, hT⟩ : ∃ T, tagB (x :: r) = T := ⟨_, rfl⟩
        rw [hT] at htl hkd htn hcall
        simp only [hT] at htt htr
        obtain ⟨o, rest⟩ := T
        simp only at htl hkd htn htt htr hcall
        have HC := Lib.hid (hcall wr HGR)
        have HTN := Lib.hid htn
        have HTT := Lib.hid htt
        have HTR := Lib.hid htr
        have HKD := Lib.hid hkd
        clear hcall htn htt htr hkd hT hst
        go_wp2_with fail
        refine HC.out.mono ?_
        rintro e w2 ⟨va, n, rfl, hn, hd, hat, hb⟩
        obtain ⟨A, cc, rfl, _⟩ := id hat
        have hrl : rest.length = (x :: r).length - n := by rw [← hd, List.length_drop]
        have hn0 : n ≠ 0 := by omega
        have BN : ((n : Int) == 0) = false := by rw [beq_eq_false_iff_ne]; omega
        have cn : (n : Int) ≤ (t.size : Int) := by rw [HTZ.out]; omega
        have HEX := Lib.hid (show (t.extract n t.size).data.toList = rest by rw [drop_extract, HS.out, hd])
        have HEZ := Lib.hid (show (t.extract n t.size).size + 1 ≤ t.size by rw [str_list (t.extract n t.size), HEX.out, hrl, HTZ.out]; omega)
        have HRDY := Lib.hid (fun W hW => tok_ready (w := w) HOWN.out hbel hb hat W hW)
        rw [tkv_agg]
        have HWZ := Lib.hid hb.size
        clear hb hn hd hn0 hrl hat
        cases o with
        | none =>
          have HE := HTN.out rfl
          simp only [Option.getD_none, tk0, List.length_nil] at *
          go_wp2_with fail
          go_roundw
          case rel =>
            refine ⟨t.extract n t.size, toks, _, rfl, rfl, ?_, by have := HEZ.out; omega, ?_, ?_⟩
            · rw [HEX.out, HIS.out, HE]
            · exact (HRDY.out _ (below_new _ _)).1
            · exact (HRDY.out _ (below_new _ _)).2.2
          case measure => have := HEZ.out; show (t.extract n t.size).size < t.size; omega
        | some k =>
          obtain ⟨kk, kn, ka, kt⟩ := k
          have hk := HKD.out _ rfl
          simp only [Option.getD_some] at *
          have BK : (kk != 0) = true := by rw [bne_iff_ne]; omega
          have hW2 : Below w2.heap.size w2 ((w2.alloc (.cells #[.int .i64 kk, .string kn, .slice A ka.length cc, .string kt] 31)).alloc (.cells #[.int .i64 kk, .string kn, .slice A ka.length cc, .string kt] 31)) := below_after (below_new w2 _) (below_new _ _)
          have hrd := HRDY.out _ hW2
          have hn4 := new_four (w2.alloc (.cells #[.int .i64 kk, .string kn, .slice A ka.length cc, .string kt] 31)) 31 ⟨kk, kn, ka, kt⟩ (.slice A ka.length cc)
          have hz1 : (w2.alloc (.cells #[.int .i64 kk, .string kn, .slice A ka.length cc, .string kt] 31)).heap.size = w2.heap.size + 1 := by simp
          rw [hz1] at hn4
          have hbT := box_on (box_here w2 #[.int .i64 kk, .string kn, .slice A ka.length cc, .string kt] 31) (below_new (w2.alloc (.cells #[.int .i64 kk, .string kn, .slice A ka.length cc, .string kt] 31)) (.cells #[.int .i64 kk, .string kn, .slice A ka.length cc, .string kt] 31))
          have HN4 := Lib.hid hn4
          have HRD := Lib.hid hrd
          have HBT := Lib.hid hbT
          have HLO := Lib.hid HOWN.out.lt
          have hw2z : wr.heap.size ≤ w2.heap.size := HWZ.out
          have hlo : w.heap.size ≤ w2.heap.size + 1 + 1 := by omega
          have HK := Lib.hid hk
          clear hW2 hrd hn4 hz1 hbT hk
          by_cases h1 : kk = 1
          · subst h1
            clear BK
            have HRW := Lib.hid (fun W => raw_any kn W)
            obtain ⟨q, hq⟩ : ∃ q, rawB kn.data.toList = q := ⟨_, rfl⟩
            rw [hq] at HRW
            have HQ := Lib.hid hq
            clear hq
            go_wp2_with (at_builtin; refine wpList_append_tok rfl _ _ rfl w.heap.size toks (.slice A0 toks.length c0) rfl HRD.out.1 (⟨1, kn, ka, kt⟩, .slice A ka.length cc) ⟨w2.heap.size + 1, 0, none⟩ 1 rfl HN4.out HRD.out.2.1 (by omega) (by simpa using hlo) ?_; intro v' w5 hown5 hg5; obtain ⟨A5, c5, rfl, hc5⟩ := hown5.shape; rw [List.length_append, List.length_singleton] at hown5; have hb5 := HRD.out.2.2.grown hg5 HRD.out.2.2.size (fun g hg => (HLO.out g hg).1); have hbx5 := tok_still HBT.out hg5 (fun e => by have := (HLO.out _ e).2; omega); have x0 : w5.cell? ⟨w2.heap.size, 0, none⟩ = some (.int .i64 1) := cell_at hbx5 0; have x1 : w5.cell? ⟨w2.heap.size, 1, none⟩ = some (.string kn) := cell_at hbx5 1; have HOWN5 := Lib.hid hown5; have HB5 := Lib.hid hb5; have HBX5 := Lib.hid hbx5; clear hown5 hg5 hb5 hbx5)
            refine (HRW.out _).mono ?_
            rintro e w6 ⟨rfl, rfl⟩
            have hrt : rawTk ⟨1, kn, ka, kt⟩ = q := by
              show (decide ((1 : Int) = 1) && rawB kn.data.toList) = q
              rw [HQ.out]
              rfl
            have HRT := Lib.hid hrt
            clear hrt
            cases q with
            | false =>
              go_wp2_with fail
              go_roundw
              case rel =>
                refine ⟨t.extract n t.size, toks ++ [⟨1, kn, ka, kt⟩], _, rfl, rfl, ?_, by have := HEZ.out; rw [List.length_append, List.length_singleton]; omega, HOWN5.out, HB5.out⟩
                rw [HEX.out, HIS.out, HTT.out _ rfl HRT.out, List.append_assoc]
                rfl
              case measure => have := HEZ.out; show (t.extract n t.size).size < t.size; omega
            | true =>
              have hkz : kn.size ≤ 1000000 := by
                have h1 := HQ.out
                unfold rawB at h1
                rw [str_list]
                simp only [Bool.or_eq_true, decide_eq_true_eq] at h1
                rcases h1 with h1 | h1 <;> rw [h1] <;> decide
              have hez := HEZ.out
              have HIN := Lib.hid (inside_any (t.extract n t.size) kn w5 (by omega) hkz)
              rw [HEX.out] at HIN
              have htr := HTR.out _ rfl HRT.out
              have HTE := Lib.hid htr
              obtain ⟨u, hu⟩ : ∃ u, t.extract n t.size = u := ⟨_, rfl⟩
              rw [hu] at HIN HEX HEZ ⊢
              have huz : u.size = rest.length := by rw [str_list, HEX.out]
              clear htr hez hu
              go_wp2_with fail
              refine HIN.out.mono ?_
              rintro e w6 ⟨m, rfl, hm1, hcut, hb6⟩
              have cm : (m : Int) ≤ (u.size : Int) := by omega
              have c0' : (0 : Int) ≤ (m : Int) := by omega
              have hrl' : rest.length < t.size := by have := HEZ.out; omega
              have hm1' : m ≤ rest.length := hm1
              have HUZ := Lib.hid huz
              clear huz
              have HCUT := Lib.hid hcut
              have HEX2 := Lib.hid (show (u.extract m u.size).data.toList = rest.drop m by rw [drop_extract, HEX.out])
              have HEZ2 := Lib.hid (show (u.extract m u.size).size = rest.length - m by rw [str_list, HEX2.out, List.length_drop])
              by_cases hm0 : m = 0
              · subst hm0
                have hB6 := below_after HB5.out hb6
                have HOWN6 := Lib.hid (HOWN5.out.later hb6)
                clear hb6 cm c0' hcut
                go_wp2_with fail
                go_roundw
                case rel =>
                  refine ⟨_, toks ++ [⟨1, kn, ka, kt⟩], _, rfl, rfl, ?_, ?_, HOWN6.out, hB6⟩
                  · have hc := HCUT.out
                    rw [HIS.out, HTE.out, hc, List.append_assoc, HEX.out]
                    rfl
                  · have h1 := HEZ.out
                    rw [List.length_append, List.length_singleton]
                    omega
                case measure => have h1 := HEZ.out; show u.size < t.size; omega
              · have BM : (0 : Int) < (m : Int) := by omega
                have htk0 : (u.extract 0 m).data.toList = rest.take m := by rw [take_extract, HEX.out]
                have htz0 : (u.extract 0 m).size ≤ 1000000 := by rw [str_list, htk0, List.length_take]; have := HEZ.out; omega
                have HTK0 := Lib.hid htk0
                have HTZ0 := Lib.hid htz0
                have hb6' := hb6
                have HB6 := Lib.hid hb6'
                clear hb6 hb6' htk0 htz0 hcut hm0
                go_wp2_with fail
                refine (clone_any (u.extract 0 m) _ HTZ0.out).mono ?_
                rintro e w7 ⟨rfl, hb7⟩
                go_wp2_with fail
                refine (chars_any (u.extract 0 m) _).mono ?_
                rintro e w8 ⟨rfl, hb8⟩
                have hb58 := below_after (below_after HB6.out hb7) hb8
                have hB8 := below_after HB5.out hb58
                have HOW8 := Lib.hid (HOWN5.out.later (below_after hb58 (below_new w8 (.cells #[.int .i64 3, .string ⟨#[]⟩, .slice none 0 0, .string (u.extract 0 m)] 31))))
                have HN8 := Lib.hid (new_four w8 31 ⟨3, ⟨#[]⟩, [], u.extract 0 m⟩ (.slice none 0 0))
                have hB8n := below_after hB8 (below_new w8 (.cells #[.int .i64 3, .string ⟨#[]⟩, .slice none 0 0, .string (u.extract 0 m)] 31))
                have HB8 := Lib.hid hB8n
                have HLO5 := Lib.hid HOWN5.out.lt
                rw [tkv_agg]
                clear hb7 hb8 hb58 hB8 hB8n
                go_wp2_with (at_builtin; refine wpList_append_tok rfl _ _ rfl w.heap.size _ _ rfl HOW8.out (⟨3, ⟨#[]⟩, [], u.extract 0 m⟩, .slice none 0 0) ⟨w8.heap.size, 0, none⟩ 1 rfl HN8.out (AttrsAt.nil _ _) (by rw [List.length_append, List.length_singleton]; omega) HB8.out.size ?_; intro v' w9 hown9 hg9; obtain ⟨A9, c9, rfl, hc9⟩ := hown9.shape; rw [List.length_append, List.length_append, List.length_singleton, List.length_singleton] at hown9; have HB9 := Lib.hid (HB8.out.grown hg9 HB8.out.size (fun g hg => (HLO5.out g hg).1)); have HOWN9 := Lib.hid hown9; clear hown9 hg9)
                go_roundw
                case rel =>
                  refine ⟨_, toks ++ [⟨1, kn, ka, kt⟩] ++ [⟨3, ⟨#[]⟩, [], u.extract 0 m⟩], _, rfl, rfl, ?_, ?_, HOWN9.out, HB9.out⟩
                  · have hc := HCUT.out
                    have hne : rest.take m ≠ [] := by
                      intro e
                      have := congrArg List.length e
                      rw [List.length_take, List.length_nil] at this
                      omega
                    rw [HIS.out, HTE.out, hc, HEX2.out]
                    show toks ++ (⟨1, kn, ka, kt⟩ :: (rawBody (rest.take m) ++ tokB (rest.drop m))) = _
                    unfold rawBody
                    rw [if_neg hne, tB_eq HTK0.out]
                    simp [tkC, tB]
                  · have h2 := HEZ2.out
                    have h3 := HEZ.out
                    have h4 := HUZ.out
                    rw [List.length_append, List.length_append, List.length_singleton, List.length_singleton, h2]
                    omega
                case measure => have h2 := HEZ2.out; show (u.extract m u.size).size < t.size; omega
          · have B1 : (kk != 1) = true := by rw [bne_iff_ne]; exact h1
            have HRT := Lib.hid (show rawTk ⟨kk, kn, ka, kt⟩ = false by unfold rawTk; rw [decide_eq_false h1, Bool.false_and])
            clear h1
            go_wp2_with (at_builtin; refine wpList_append_tok rfl _ _ rfl w.heap.size toks (.slice A0 toks.length c0) rfl HRD.out.1 (⟨kk, kn, ka, kt⟩, .slice A ka.length cc) ⟨w2.heap.size + 1, 0, none⟩ 1 rfl HN4.out HRD.out.2.1 (by omega) (by simpa using hlo) ?_; intro v' w5 hown5 hg5; obtain ⟨A5, c5, rfl, hc5⟩ := hown5.shape; rw [List.length_append, List.length_singleton] at hown5; have hb5 := HRD.out.2.2.grown hg5 HRD.out.2.2.size (fun g hg => (HLO.out g hg).1); have hbx5 := tok_still HBT.out hg5 (fun e => by have := (HLO.out _ e).2; omega); have x0 : w5.cell? ⟨w2.heap.size, 0, none⟩ = some (.int .i64 kk) := cell_at hbx5 0; have x1 : w5.cell? ⟨w2.heap.size, 1, none⟩ = some (.string kn) := cell_at hbx5 1; have HOWN5 := Lib.hid hown5; have HB5 := Lib.hid hb5; have HBX5 := Lib.hid hbx5; clear hown5 hg5 hb5 hbx5)
            go_roundw
            case rel =>
              refine ⟨t.extract n t.size, toks ++ [⟨kk, kn, ka, kt⟩], _, rfl, rfl, ?_, by have := HEZ.out; rw [List.length_append, List.length_singleton]; omega, HOWN5.out, HB5.out⟩
              rw [HEX.out, HIS.out, HTT.out _ rfl HRT.out, List.append_assoc]
              rfl
            case measure => have := HEZ.out; show (t.extract n t.size).size < t.size; omega
      | false =>
        have hno := tag_none t wr ht6 (by rw [HS.out]; exact hst)
        have HNO := Lib.hid hno
        have hch := tokB_chars hst
        have hlt := charsB_less hst
        have HCH := Lib.hid hch
        have HLT := Lib.hid hlt
        clear hno hst hch hlt
        rw [tkv_agg] at HNO
        go_wp2_with fail
        refine HNO.out.mono ?_
        rintro e w2 ⟨rfl, hb2⟩
        have hw2z := hb2.size
        have HB2 := Lib.hid hb2
        simp only [tk0]
        clear hb2
        go_wp2_with fail
        refine (calm_any t _ ht6).mono ?_
        rintro e w3 ⟨m, rfl, hm1, hm2, hm3, hb3⟩
        rw [HS.out] at hm1 hm2 hm3
        have HCB := Lib.hid (charsB_at (x :: r) m hm1 hm2 hm3)
        have hmp : 0 < m := by
          have h1 := HLT.out
          rw [HCB.out, List.length_drop] at h1
          omega
        have cm : (m : Int) ≤ (t.size : Int) := by rw [HTZ.out]; omega
        have htk0 : (t.extract 0 m).data.toList = (x :: r).take m := by rw [take_extract, HS.out]
        have htz0 : (t.extract 0 m).size ≤ 1000000 := by rw [str_list, htk0, List.length_take]; have := HTZ.out; omega
        have HEX := Lib.hid (show (t.extract m t.size).data.toList = (x :: r).drop m by rw [drop_extract, HS.out])
        have HEZ := Lib.hid (show (t.extract m t.size).size + m = t.size by rw [str_list (t.extract m t.size), HEX.out, List.length_drop, HTZ.out]; omega)
        have HTK0 := Lib.hid htk0
        have hbT3 := box_on (box_here w2 #[.int .i64 0, .string ⟨#[]⟩, .slice none 0 0, .string ⟨#[]⟩] 31) hb3
        have hb23 := below_after (below_new w2 _) hb3
        clear hm1 hm2 hm3 htk0 hb3
        go_wp2_with fail
        refine (decode_any (t.extract 0 m) _ htz0).mono ?_
        rintro e w4 ⟨rfl, hb4⟩
        rw [HTK0.out]
        obtain ⟨d, hd, hdl, _⟩ := str_of (decB ((x :: r).take m))
        rw [hd]
        have HD := Lib.hid (show (⟨3, ⟨#[]⟩, [], d⟩ : Tk) = tkC (decB ((x :: r).take m)) by rw [← hd]; rfl)
        have hbT4 := box_on hbT3 hb4
        have hb24 := below_after hb23 hb4
        clear hd hdl hb4 hbT3 hb23
        go_wp2_with fail
        refine (chars_any d _).mono ?_
        rintro e w5 ⟨rfl, hb5⟩
        rw [tkv_agg]
        have hbT5 := box_on hbT4 hb5
        have hb25 := below_after hb24 hb5
        have hbr5 : Below wr.heap.size wr w5 := below_after HB2.out hb25
        have d0 : w5.cell? ⟨w2.heap.size, 0, none⟩ = some (.int .i64 0) := cell_at hbT5 0
        have d1 : w5.cell? ⟨w2.heap.size, 1, none⟩ = some (.string ⟨#[]⟩) := cell_at hbT5 1
        have d2 : w5.cell? ⟨w2.heap.size, 2, none⟩ = some (.slice none 0 0) := cell_at hbT5 2
        have d3 : w5.cell? ⟨w2.heap.size, 3, none⟩ = some (.string ⟨#[]⟩) := cell_at hbT5 3
        have f0 := froz_at hbT5 0
        have f1 := froz_at hbT5 1
        have f2 := froz_at hbT5 2
        have f3 := froz_at hbT5 3
        have hWb := set4k hbr5 hw2z (.int .i64 3) (.string ⟨#[]⟩) (.slice none 0 0) (.string d)
        have hbW := box_set4 hbT5 (.int .i64 3) (.string ⟨#[]⟩) (.slice none 0 0) (.string d)
        have hWn := hWb.alloc hWb.size (.cells #[.int .i64 3, .string ⟨#[]⟩, .slice none 0 0, .string d] 31)
        have hbN := box_on hbW (below_new _ (.cells #[.int .i64 3, .string ⟨#[]⟩, .slice none 0 0, .string d] 31))
        have hN := new_four ((((w5.setCell ⟨w2.heap.size, 0, none⟩ (.int .i64 3)).setCell ⟨w2.heap.size, 1, none⟩ (.string ⟨#[]⟩)).setCell ⟨w2.heap.size, 2, none⟩ (.slice none 0 0)).setCell ⟨w2.heap.size, 3, none⟩ (.string d)) 31 ⟨3, ⟨#[]⟩, [], d⟩ (.slice none 0 0)
        have hz5 : ((((w5.setCell ⟨w2.heap.size, 0, none⟩ (.int .i64 3)).setCell ⟨w2.heap.size, 1, none⟩ (.string ⟨#[]⟩)).setCell ⟨w2.heap.size, 2, none⟩ (.slice none 0 0)).setCell ⟨w2.heap.size, 3, none⟩ (.string d)).heap.size = w5.heap.size := by simp
        rw [hz5] at hN
        have HOWN5 := Lib.hid (HOWN.out.later hWn)
        have HBN := Lib.hid hbN
        have HN := Lib.hid hN
        have HWN := Lib.hid (below_after hbel hWn)
        have HLO := Lib.hid HOWN.out.lt
        have hlo := HWN.out.size
        clear hbT4 hb24 hb5 hbT5 hb25 hbr5 hWb hbW hWn hbN hN hz5
        go_wp2_with (at_builtin; refine wpList_append_tok rfl _ _ rfl w.heap.size toks (.slice A0 toks.length c0) rfl HOWN5.out (⟨3, ⟨#[]⟩, [], d⟩, .slice none 0 0) ⟨w5.heap.size, 0, none⟩ 1 rfl HN.out (AttrsAt.nil _ _) (by omega) (by simpa using hlo) ?_; intro v' w6 hown6 hg6; obtain ⟨A6, c6, rfl, hc6⟩ := hown6.shape; rw [List.length_append, List.length_singleton] at hown6; have hb6 := HWN.out.grown hg6 hlo (fun g hg => (HLO.out g hg).1); have hbx6 := tok_still HBN.out hg6 (fun e => by have := (HLO.out _ e).2; omega); have x0 : w6.cell? ⟨w2.heap.size, 0, none⟩ = some (.int .i64 3) := cell_at hbx6 0; have HOWN6 := Lib.hid hown6; have HB6 := Lib.hid hb6; clear hown6 hg6 hb6 hbx6)
        go_roundw
        case rel =>
          refine ⟨t.extract m t.size, toks ++ [⟨3, ⟨#[]⟩, [], d⟩], _, rfl, rfl, ?_, by have := HEZ.out; rw [List.length_append, List.length_singleton]; omega, HOWN6.out, HB6.out⟩
          rw [HEX.out, HIS.out, HCH.out, HCB.out, HD.out, List.append_assoc]
          rfl
        case measure => have := HEZ.out; show (t.extract m t.size).size < t.size; omega

/-- What token.Tokens is to do, it does. -/
theorem toks_said : ToksSaid := fun s w HG _ hm => tokens_any s w HG hm

end Go.Proofs.Ytialfafjoemppaa

/- Part Open. -/
namespace Go.Proofs.Ytialfafjoemppaa
open Go.RowKit Go.ChangeShapes Go.WideShapes Go.ChangeAt
set_option linter.unusedVariables false

theorem knob : ownKnob Try.prog.godebug = none := by kernel_rfl
theorem outlay : laidOutB Try.prog = true := by kernel_rfl

theorem cell_lt {w : World} {p : Addr} {v : Value} (h : w.cell? p = some v) : p.block < w.heap.size := by
  rcases Nat.lt_or_ge p.block w.heap.size with hlt | hge
  · exact hlt
  · unfold World.cell? at h
    rw [Array.getElem?_eq_none hge] at h
    cases h

/-- A row of integers as the reading of an argument gives it, in the walks' words. -/
theorem row_sits {w : World} {x : Addr} {k : IntKind} {len : Nat} {zs : List Int} (hl : len ≤ zs.length) (hcell : ∀ i, i < zs.length → w.cell? (x.add i) = some (.int k (zs.getD i 0))) :
    Sits w w.heap.size (some x) ((zs.take len).map (Value.int k)) := by
  intro hp
  rw [List.length_map, List.length_take] at hp
  have hc0 := hcell 0 (by omega)
  have hs : x.spot = none := by simpa [Addr.add] using World.cell?_spot hc0
  obtain ⟨b, o, sp⟩ := x
  simp only at hs
  subst hs
  refine ⟨b, o, rfl, by simpa [Addr.add] using cell_lt hc0, fun j u hu => ?_⟩
  rw [List.getElem?_map, List.getElem?_take] at hu
  split at hu
  · rename_i hj
    have hcj := hcell j (by omega)
    have e : (⟨b, o, none⟩ : Addr).add j = ⟨b, o + j, none⟩ := by
      unfold Addr.add
      split
      · rename_i h0; subst h0; rfl
      · rfl
    rw [e] at hcj
    rw [hcj]
    rw [List.getD_eq_getElem?_getD]
    cases hz : zs[j]? with
    | none => rw [hz] at hu; cases hu
    | some z => rw [hz] at hu; simpa using hu
  · cases hu

theorem open_bytes {H : Type} {enc : TypeId × Value → H} {w : World} {base : Nat} {spare : Nat → Bool} {held : Bool} {fuel len cap : Nat} {a : Option Addr} {x : DataW H × List MemPlace}
    (h : DataW.trod enc Try.prog w base spare held fuel 36 [.slice a len cap] = some x) (hsp : ∀ b, spare b = true) :
    ∃ l : List UInt8, len = l.length ∧ len ≤ cap ∧ len ≤ maxLen ∧ Sits w w.heap.size a (Lib.byteCells l) := by
  rcases open_ints Try.underlying36 Try.underlying5 (by kernel_rfl) h with ⟨hcs, _⟩ | ⟨y, l, c, zs, hcs, _, hl, hm, hz, _, hcell, hwz⟩
  · simp at hcs
    obtain ⟨rfl, rfl, rfl⟩ := hcs
    exact ⟨[], rfl, Nat.le_refl _, by unfold maxLen; omega, Sits.nil _ _ _⟩
  · simp at hcs
    obtain ⟨rfl, rfl, rfl⟩ := hcs
    rw [hsp, if_pos rfl] at hz
    refine ⟨(zs.take len).map fun n => UInt8.ofNat n.toNat, by simp; omega, hl, by omega, ?_⟩
    have hs := row_sits (len := len) (by omega) hcell
    have e : Lib.byteCells ((zs.take len).map fun n => UInt8.ofNat n.toNat) = (zs.take len).map (Value.int .u8) := by
      unfold Lib.byteCells
      rw [List.map_map]
      apply List.map_congr_left
      intro n hn
      have hb := bounds_u8 (hwz n (List.mem_of_mem_take hn))
      simp
      omega
    rw [e]
    exact hs

theorem open_runes {H : Type} {enc : TypeId × Value → H} {w : World} {base : Nat} {spare : Nat → Bool} {held : Bool} {fuel len cap : Nat} {a : Option Addr} {x : DataW H × List MemPlace}
    (h : DataW.trod enc Try.prog w base spare held fuel 51 [.slice a len cap] = some x) (hsp : ∀ b, spare b = true) :
    ∃ l : List Int, len = l.length ∧ len ≤ cap ∧ len ≤ maxLen ∧ (∀ r ∈ l, -2147483648 ≤ r ∧ r ≤ 2147483647) ∧ Sits w w.heap.size a (rcells l) := by
  rcases open_ints Try.underlying51 Try.underlying21 (by kernel_rfl) h with ⟨hcs, _⟩ | ⟨y, l, c, zs, hcs, _, hl, hm, hz, _, hcell, hwz⟩
  · simp at hcs
    obtain ⟨rfl, rfl, rfl⟩ := hcs
    exact ⟨[], rfl, Nat.le_refl _, by unfold maxLen; omega, (fun r hr => by cases hr), Sits.nil _ _ _⟩
  · simp at hcs
    obtain ⟨rfl, rfl, rfl⟩ := hcs
    rw [hsp, if_pos rfl] at hz
    exact ⟨zs.take len, by simp; omega, hl, by omega, fun r hr => bounds_i32 (hwz r (List.mem_of_mem_take hr)), row_sits (len := len) (by omega) hcell⟩

end Go.Proofs.Ytialfafjoemppaa

/- Part TokZ. -/
namespace Go.Proofs.Ytialfafjoemppaa
set_option linter.unusedVariables false
set_option linter.unusedSimpArgs false

def szK (k : Tk) : Nat := 10 + k.name.size + k.text.size + szA k.attrs
def szKs : List Tk → Nat
  | [] => 0
  | k :: l => szK k + szKs l
theorem szKs_append : ∀ a b : List Tk, szKs (a ++ b) = szKs a + szKs b
  | [], b => by simp [szKs]
  | k :: a, b => by rw [List.cons_append]; simp only [szKs]; rw [szKs_append a b]; omega
theorem szKs_mem : ∀ {l : List Tk} {k : Tk}, k ∈ l → szK k ≤ szKs l
  | x :: l, k, h => by
    simp only [szKs]
    rcases List.mem_cons.1 h with rfl | h
    · omega
    · have := szKs_mem h; omega
theorem szKs_len : ∀ l : List Tk, 10 * l.length ≤ szKs l
  | [] => by simp [szKs]
  | k :: l => by
    have := szKs_len l
    simp only [szKs, List.length_cons]
    unfold szK
    omega
theorem szK_chars (t : List UInt8) : szK (tkC t) = 10 + t.length := by
  show 10 + (tB []).size + (tB t).size + szA [] = _
  rw [tB_size, tB_size]
  simp [szA]
theorem szK_remark (t : List UInt8) : szK (tkR t) = 10 + t.length := by
  show 10 + (tB []).size + (tB t).size + szA [] = _
  rw [tB_size, tB_size]
  simp [szA]
theorem szK_end (t : List UInt8) : szK (tkE t) = 10 + t.length := by
  show 10 + (tB t).size + (tB []).size + szA [] = _
  rw [tB_size, tB_size]
  simp [szA]
theorem szK_begin (t : List UInt8) (ats : List (ByteArray × ByteArray)) : szK (tkB t ats) = 10 + t.length + szA ats := by
  show 10 + (tB t).size + (tB []).size + szA ats = _
  rw [tB_size, tB_size]
  simp

theorem while_len {p : UInt8 → Bool} (l : List UInt8) : (l.takeWhile p).length + (l.dropWhile p).length = l.length := by
  rw [← List.length_append, List.takeWhile_append_dropWhile]
theorem valOf_sum {l : List UInt8} {x : List UInt8 × List UInt8} (h : valOf l = some x) : x.1.length + x.2.length ≤ l.length := by
  cases l with
  | nil =>
    have h' : some (([], []) : List UInt8 × List UInt8) = some x := h
    injection h' with h'
    subst h'
    simp
  | cons q r =>
    rw [valOf_cons] at h
    split at h
    · split at h
      · injection h with h
        subst h
        have := while_len (p := neC q) r
        simp only [List.length_drop, List.length_cons]
        omega
      · cases h
    · injection h with h
      subst h
      have := while_len (p := valC) (q :: r)
      show (List.takeWhile valC (q :: r)).length + (List.dropWhile valC (q :: r)).length ≤ _
      omega
theorem attOf_sz {c : UInt8} {r : List UInt8} {x : (ByteArray × ByteArray) × List UInt8} (h : attOf (c :: r) = some x) : x.1.1.size + x.1.2.size + x.2.length ≤ (c :: r).length := by
  have h1 := behind_len (c :: r)
  have h2 := while_len (p := goC) (c :: r)
  have hn : (tB (nameAt (c :: r))).size = ((c :: r).takeWhile goC).length := by rw [tB_size]; unfold nameAt; rw [List.length_map]
  cases hb : behind (c :: r) with
  | nil =>
    rw [attOf_nil hb] at h
    injection h with h
    subst h
    show (tB (nameAt (c :: r))).size + (tB []).size + 0 ≤ _
    rw [hn, tB_size]
    simp only [List.length_nil]
    omega
  | cons c' r' =>
    rw [hb, List.length_cons] at h1
    by_cases he : c' = 61
    · subst he
      rw [attOf_eq hb] at h
      cases hv : valOf (r'.dropWhile blC) with
      | none => rw [hv] at h; cases h
      | some y =>
        rw [hv] at h
        injection h with h
        subst h
        have h3 := valOf_sum hv
        have h4 := drop_len blC r'
        have h5 := decB_len _ y.1 (Nat.le_refl _)
        show (tB (nameAt (c :: r))).size + (tB (decB y.1)).size + y.2.length ≤ _
        rw [hn, tB_size]
        omega
    · rw [attOf_other hb he] at h
      injection h with h
      subst h
      show (tB (nameAt (c :: r))).size + (tB []).size + (c' :: r').length ≤ _
      rw [hn, tB_size, List.length_cons]
      simp only [List.length_nil]
      omega
theorem addA_sz (acc : List (ByteArray × ByteArray)) (a : ByteArray × ByteArray) : szA (addA acc a) ≤ szA acc + (10 + a.1.size + a.2.size) := by
  unfold addA
  split
  · omega
  · rw [szA_append]
    simp only [szA]
    omega
theorem attsOf_sz : ∀ (n : Nat) (l : List UInt8) (acc : List (ByteArray × ByteArray)) (x : List (ByteArray × ByteArray) × List UInt8), l.length ≤ n → attsOf acc l = some x → szA x.1 + 11 * x.2.length ≤ szA acc + 11 * l.length
  | n, [], acc, x, _, h => by rw [attsOf_nil] at h; cases h
  | 0, c :: r, acc, x, hn, h => by simp at hn
  | n + 1, c :: r, acc, x, hn, h => by
    rw [List.length_cons] at hn ⊢
    by_cases h1 : c = 62
    · subst h1
      rw [attsOf_end] at h
      injection h with h
      subst h
      show szA acc + 11 * r.length ≤ _
      omega
    cases h2 : stopC c with
    | true =>
      rw [attsOf_skip acc r h1 h2] at h
      have := attsOf_sz n r acc x (by omega) h
      omega
    | false =>
      cases h3 : attOf (c :: r) with
      | none => rw [attsOf_none acc h2 h3] at h; cases h
      | some y =>
        rw [attsOf_some acc h2 h3] at h
        have h4 := attOf_len h2 h3
        have h5 := attOf_sz h3
        have h6 := addA_sz acc y.1
        rw [List.length_cons] at h4 h5
        have := attsOf_sz n y.2 _ x (by omega) h
        omega
theorem upTo3_sum : ∀ l : List UInt8, (upTo3 l).1.length + (upTo3 l).2.length ≤ l.length := by
  intro l
  rcases upTo3_form l with ⟨h1, h2⟩ | h1
  · rw [h2, ← h1]; simp
  · have := congrArg List.length h1
    simp only [List.length_append, List.length_cons] at this
    omega
theorem upTo1_sum (l : List UInt8) : (upTo1 l).1.length + (upTo1 l).2.length ≤ l.length := by
  have := while_len (p := neC 62) l
  show (l.takeWhile (neC 62)).length + ((l.dropWhile (neC 62)).drop 1).length ≤ _
  rw [List.length_drop]
  omega
theorem name_len (l : List UInt8) : ((l.takeWhile tagC).map lowB).length ≤ l.length := by
  have := while_len (p := tagC) l
  rw [List.length_map]
  omega
theorem slashB_sz (l : List UInt8) : ∀ k, (slashB l).1 = some k → szK k ≤ 10 + l.length := by
  intro k hk
  cases l with
  | nil =>
    have hk' : some (tkR []) = some k := hk
    injection hk' with hk'
    subst hk'
    rw [szK_remark]
    omega
  | cons d r =>
    have h1 := upTo1_sum (d :: r)
    have h2 := name_len (d :: r)
    rw [slashB_cons] at hk
    split at hk
    · cases hk
    · split at hk
      · split at hk
        · injection hk with hk
          subst hk
          rw [szK_end]
          omega
        · cases hk
      · injection hk with hk
        subst hk
        rw [szK_remark]
        omega
theorem tagB_sz {l : List UInt8} (h : startsB l = true) : ∀ k, (tagB l).1 = some k → szK k + 21 * (tagB l).2.length ≤ 21 * l.length := by
  intro k hk
  have hlen := tagB_len h
  obtain ⟨c, r, rfl, hc⟩ := starts_form h
  cases hlc : letC c with
  | true =>
    rw [tagB_letter hlc] at hk hlen ⊢
    cases ha : attsOf [] ((c :: r).dropWhile tagC) with
    | none => rw [ha] at hk; cases hk
    | some x =>
      rw [ha] at hk
      injection hk with hk
      subst hk
      have h1 := attsOf_sz _ _ [] x (Nat.le_refl _) ha
      have h2 := attsOf_len _ _ _ x (Nat.le_refl _) ha
      have h3 := while_len (p := tagC) (c :: r)
      rw [szK_begin, List.length_map]
      show 10 + _ + szA x.1 + 21 * x.2.length ≤ _
      simp only [szA] at h1
      rw [List.length_cons, List.length_cons]
      rw [List.length_cons] at h3
      omega
  | false =>
    cases hp : Lib.hasPrefix (c :: r) [33, 45, 45] with
    | true =>
      obtain ⟨t, ht⟩ := pre_form3 hp
      injection ht with h1 h2
      subst h1
      subst h2
      rw [tagB_remark] at hk ⊢
      injection hk with hk
      subst hk
      have := upTo3_sum t
      rw [szK_remark]
      show 10 + (upTo3 t).1.length + 21 * (upTo3 t).2.length ≤ _
      simp only [List.length_cons]
      omega
    | false =>
      by_cases h4 : c = 47
      · subst h4
        rw [tagB_slash] at hk hlen ⊢
        have h5 := slashB_sz r k hk
        have h6 : szK k + 21 * (slashB r).2.length ≤ 21 * (r.length + 2) := by
          cases r with
          | nil =>
            have h7 := slashB_len ([] : List UInt8)
            simp only [List.length_nil] at h5 h7 ⊢
            omega
          | cons d r =>
            have h8 := upTo1_sum (d :: r)
            have h9 := name_len (d :: r)
            rw [slashB_cons] at hk ⊢
            split at hk
            · cases hk
            · rename_i hd
              rw [if_neg hd]
              split at hk
              · rename_i hl
                rw [if_pos hl]
                split at hk
                · rename_i h62
                  rw [if_pos h62]
                  injection hk with hk
                  subst hk
                  rw [szK_end]
                  have htw : ((d :: r).takeWhile tagC).length ≤ (upTo1 (d :: r)).1.length := by
                    show _ ≤ ((d :: r).takeWhile (neC 62)).length
                    have key : ∀ l : List UInt8, (l.takeWhile tagC).length ≤ (l.takeWhile (neC 62)).length := by
                      intro l
                      induction l with
                      | nil => exact Nat.le_refl _
                      | cons x l ih =>
                        rw [List.takeWhile_cons, List.takeWhile_cons]
                        split
                        · rename_i hx
                          have : neC 62 x = true := by
                            by_cases e : x = 62
                            · subst e; cases hx
                            · simp [neC, e]
                          rw [if_pos this]
                          simp only [List.length_cons]
                          omega
                        · exact Nat.zero_le _
                    exact key _
                  rw [List.length_map]
                  show 10 + _ + 21 * (upTo1 (d :: r)).2.length ≤ _
                  omega
                · cases hk
              · rename_i hl
                rw [if_neg hl]
                injection hk with hk
                subst hk
                rw [szK_remark]
                show 10 + _ + 21 * (upTo1 (d :: r)).2.length ≤ _
                omega
        simp only [List.length_cons]
        omega
      · rw [tagB_other hlc hp h4] at hk ⊢
        injection hk with hk
        subst hk
        have := upTo1_sum r
        rw [szK_remark]
        show 10 + (upTo1 r).1.length + 21 * (upTo1 r).2.length ≤ _
        simp only [List.length_cons]
        omega
theorem rawBody_sz (l : List UInt8) : szKs (rawBody l) ≤ 21 * l.length := by
  unfold rawBody
  split
  · exact Nat.zero_le _
  · rename_i h
    have : 0 < l.length := List.length_pos_iff.2 h
    simp only [szKs]
    rw [szK_chars]
    omega
/-- All tokens together are no greater than the text, but for a factor. -/
theorem tok_sz : ∀ (n : Nat) (l : List UInt8), l.length ≤ n → szKs (tokB l) ≤ 21 * l.length
  | n, [], _ => by rw [tokB_nil]; exact Nat.zero_le _
  | 0, c :: r, hn => by simp at hn
  | n + 1, c :: r, hn => by
    cases hst : startsB (c :: r) with
    | false =>
      rw [tokB_chars hst]
      have h1 := charsB_less hst
      have h2 := congrArg List.length (charsB_app (c :: r)).1
      have h3 := decB_len _ (charsB (c :: r)).1 (Nat.le_refl _)
      have h4 := tok_sz n (charsB (c :: r)).2 (by omega)
      rw [List.length_append] at h2
      simp only [szKs]
      rw [szK_chars]
      omega
    | true =>
      have h1 := tagB_len hst
      cases ht : (tagB (c :: r)).1 with
      | none =>
        rw [tokB_none hst ht]
        have := tok_sz n (tagB (c :: r)).2 (by omega)
        omega
      | some k =>
        have h2 := tagB_sz hst k ht
        cases hr : rawTk k with
        | false =>
          rw [tokB_tag hst ht hr]
          have := tok_sz n (tagB (c :: r)).2 (by omega)
          simp only [szKs]
          omega
        | true =>
          rw [tokB_raw hst ht hr]
          have hlen := cutEnd_len k.name.data.toList (tagB (c :: r)).2
          have h3 := tok_sz n (cutEnd k.name.data.toList (tagB (c :: r)).2).2 (by omega)
          have h4 := rawBody_sz (cutEnd k.name.data.toList (tagB (c :: r)).2).1
          have h5 := congrArg List.length (cutEnd_app k.name.data.toList (tagB (c :: r)).2)
          rw [List.length_append] at h5
          simp only [szKs]
          rw [szKs_append]
          omega

end Go.Proofs.Ytialfafjoemppaa

/- Part NamL. -/
namespace Go.Proofs.Ytialfafjoemppaa
open Go.RowKit
set_option linter.unusedVariables false

theorem byte_at (s : ByteArray) (l : List UInt8) (h : s.data.toList = l) : ∀ k, (hk : k < s.size) → l[k]? = some s[k] := by
  intro k hk
  rw [← h, List.getElem?_eq_getElem (by simpa using hk)]
  rw [at_data s k hk]
theorem take_snoc1 {l : List UInt8} {k : Nat} {c : UInt8} (h : l[k]? = some c) : l.take (k + 1) = l.take k ++ [c] := by rw [List.take_add_one, h]; rfl

set_option maxHeartbeats 2000000 in
set_option maxRecDepth 100000 in
theorem namedR_any (s : ByteArray) (w : World) (hm : s.size ≤ 100000) :
    Calls Try.prog 15 #[.string s] w fun e w' => e = .returned (.bool (namedB s.data.toList)) ∧ w = w' := by
  obtain ⟨l, hl⟩ : ∃ l, s.data.toList = l := ⟨_, rfl⟩
  have hlz : s.size = l.length := by rw [← hl]; simp
  rw [hl]
  by_cases h0 : s.size = 0
  · have HF := Lib.hid (show namedB l = false by rw [List.eq_nil_of_length_eq_zero (by omega : l.length = 0)]; rfl)
    have B : ((s.size : Int) == 0) = true := by rw [h0]; rfl
    clear hl hlz
    go_enter Try.func15, Try.ntmps15
    go_wp2_with fail
    go_ret
    exact ⟨by rw [HF.out]; rfl, rfl⟩
  · have hp : 0 < s.size := by omega
    have B : ((s.size : Int) == 0) = false := by rw [beq_eq_false_iff_ne]; omega
    have hat := byte_at s l hl
    have hg0 := hat 0 hp
    obtain ⟨c0, hc0⟩ : ∃ c, s[0] = c := ⟨_, rfl⟩
    rw [hc0] at hg0
    have hnB : namedB l = (smC c0 && l.all namC) := by
      cases l with
      | nil => simp at hg0
      | cons a t => simp at hg0; subst hg0; rfl
    obtain ⟨q0, hq0⟩ : ∃ q, smC c0 = q := ⟨_, rfl⟩
    rw [hq0] at hnB
    have HNB := Lib.hid hnB
    have HAT := Lib.hid hat
    have HZ := Lib.hid hlz
    have HC0 := Lib.hid hc0
    have HQ0 := Lib.hid hq0
    clear hl hlz h0 hat hg0 hnB hc0 hq0
    go_enter Try.func15, Try.ntmps15
    go_wp2_with fail
    rw [HC0.out]
    refine (small3_any c0 _).mono ?_
    rw [HQ0.out]
    rintro e w1 ⟨rfl, rfl⟩
    go_wp2_with fail
    go_loop [4] (fun y => ∃ k : Nat, y = .int .i64 k ∧ k ≤ s.size ∧ Hid ((l.take k).all namC = true)) (fun y => s.size - (intOf y).toNat)
    case atStart => exact ⟨0, rfl, by omega, Lib.hid rfl⟩
    case round =>
      obtain ⟨k, rfl, hk, HA⟩ := hrel
      by_cases hlt : k < s.size
      · have hg := HAT.out k hlt
        obtain ⟨c, hc⟩ : ∃ c, s[k] = c := ⟨_, rfl⟩
        rw [hc] at hg
        have htk := take_snoc1 hg
        have hno := fun h => all_false (p := namC) hg h
        have HNO := Lib.hid hno
        have HC := Lib.hid hc
        have HST := Lib.hid (show namC c = true → (l.take (k + 1)).all namC = true by intro h; rw [htk, all_snoc, HA.out, h]; rfl)
        clear hg htk hno
        by_cases hs : smC c = true
        · have HS := Lib.hid hs
          have HN := Lib.hid (HST.out (by unfold namC; rw [hs]; rfl))
          clear hs hc
          go_wp2_with fail
          rw [HC.out]
          refine (small3_any c _).mono ?_
          rw [HS.out]
          rintro e w1 ⟨rfl, rfl⟩
          go_wp2_with fail
          go_round
          case rel => exact ⟨k + 1, by go_num, by omega, HN⟩
          case measure => simp [intOf]; omega
        · have hs' : smC c = false := by simpa using hs
          have HS := Lib.hid hs'
          by_cases hn : namC c = true
          · have HN := Lib.hid (HST.out hn)
            by_cases h45 : c.toNat = 45
            · have D1 : decide ((s[k].toNat : Int) < 48) = true := by rw [hc]; simp; omega
              have D3 : ((s[k].toNat : Int) != 45) = false := by rw [hc, h45]; rfl
              clear hs hs' hn hc h45
              go_wp2_with fail
              rw [HC.out]
              refine (small3_any c _).mono ?_
              rw [HS.out]
              rintro e w1 ⟨rfl, rfl⟩
              go_wp2_with fail
              go_round
              case rel => exact ⟨k + 1, by go_num, by omega, HN⟩
              case measure => simp [intOf]; omega
            · have hd : 48 ≤ c.toNat ∧ c.toNat ≤ 57 := by
                unfold namC at hn
                rw [hs'] at hn
                simp at hn
                omega
              have D1 : decide ((s[k].toNat : Int) < 48) = false := by rw [hc]; simp; omega
              have D2 : decide (57 < (s[k].toNat : Int)) = false := by rw [hc]; simp; omega
              clear hs hs' hn hc h45 hd
              go_wp2_with fail
              rw [HC.out]
              refine (small3_any c _).mono ?_
              rw [HS.out]
              rintro e w1 ⟨rfl, rfl⟩
              go_wp2_with fail
              go_round
              case rel => exact ⟨k + 1, by go_num, by omega, HN⟩
              case measure => simp [intOf]; omega
          · have hn' : namC c = false := by simpa using hn
            have HF := Lib.hid (show namedB l = false by rw [HNB.out, HNO.out hn']; simp)
            have hb : ¬ c.toNat = 45 ∧ (c.toNat < 48 ∨ 57 < c.toNat) := by
              unfold namC at hn'
              rw [hs'] at hn'
              simp at hn'
              omega
            have D3 : ((s[k].toNat : Int) != 45) = true := by rw [hc]; simp; omega
            obtain ⟨hb1, hb2⟩ := hb
            rcases (show c.toNat < 48 ∨ (48 ≤ c.toNat ∧ 57 < c.toNat) by omega) with hb | ⟨hb, hb'⟩
            case' inl => have D1 : decide ((s[k].toNat : Int) < 48) = true := by rw [hc]; simp; omega
            case' inr =>
              have D1 : decide ((s[k].toNat : Int) < 48) = false := by rw [hc]; simp; omega
              have D2 : decide (57 < (s[k].toNat : Int)) = true := by rw [hc]; simp; omega
            all_goals
              clear hs hs' hn hn' hc hb1 hb2
              go_wp2_with fail
              rw [HC.out]
              refine (small3_any c _).mono ?_
              rw [HS.out]
              rintro e w1 ⟨rfl, rfl⟩
              go_wp2_with fail
              go_ret
              exact ⟨by rw [HF.out]; rfl, rfl⟩
      · have HF := Lib.hid (show namedB l = q0 by
          rw [HNB.out]
          have := HA.out
          rw [List.take_of_length_le (by have := HZ.out; omega)] at this
          rw [this, Bool.and_true])
        go_wp2_with fail
        go_ret
        exact ⟨by rw [HF.out]; rfl, rfl⟩

end Go.Proofs.Ytialfafjoemppaa

/- Part NamA. -/
namespace Go.Proofs.Ytialfafjoemppaa
open Go.RowKit
set_option linter.unusedVariables false

theorem byte_no {c : UInt8} {n : Nat} (h : c.toNat ≠ n) : ((c.toNat : Int) == (n : Int)) = false := by
  rw [beq_eq_false_iff_ne]
  omega

theorem attC_true {c : UInt8} (h : attC c = true) : (c.toNat < 65 ∨ 90 < c.toNat) ∧ c.toNat ≠ 9 ∧ c.toNat ≠ 10 ∧ c.toNat ≠ 12 ∧ c.toNat ≠ 32 ∧ c.toNat ≠ 47 ∧ c.toNat ≠ 62 ∧ c.toNat ≠ 61 := by
  unfold attC at h
  simp at h
  omega
theorem attC_false {c : UInt8} (h : attC c = false) : (65 ≤ c.toNat ∧ c.toNat ≤ 90) ∨ c.toNat = 9 ∨ c.toNat = 10 ∨ c.toNat = 12 ∨ c.toNat = 32 ∨ c.toNat = 47 ∨ c.toNat = 62 ∨ c.toNat = 61 := by
  unfold attC at h
  simp at h
  omega

set_option maxHeartbeats 4000000 in
set_option maxRecDepth 100000 in
theorem attrR_any (s : ByteArray) (w : World) (hm : s.size ≤ 100000) :
    Calls Try.prog 16 #[.string s] w fun e w' => e = .returned (.bool (attrB s.data.toList)) ∧ Below w.heap.size w w' := by
  obtain ⟨l, hl⟩ : ∃ l, s.data.toList = l := ⟨_, rfl⟩
  have hlz : s.size = l.length := by rw [← hl]; simp
  have hi := isR_any s w hm
  rw [hl] at hi ⊢
  obtain ⟨q, hq⟩ : ∃ q, isB l = q := ⟨_, rfl⟩
  rw [hq] at hi
  have HI := Lib.hid hi
  have HQ := Lib.hid hq
  have HAT := Lib.hid (byte_at s l hl)
  have HZ := Lib.hid hlz
  clear hl hlz hi hq
  go_enter Try.func16, Try.ntmps16
  go_wp2_with fail
  refine HI.out.mono ?_
  rintro e w1 ⟨rfl, hb1⟩
  go_wp2_with fail
  go_loop [4] (fun y => ∃ k : Nat, y = .int .i64 k ∧ k ≤ s.size ∧ Hid ((l.take k).all attC = true)) (fun y => s.size - (intOf y).toNat)
  case atStart => exact ⟨0, rfl, by omega, Lib.hid rfl⟩
  case round =>
    obtain ⟨k, rfl, hk, HA⟩ := hrel
    by_cases hlt : k < s.size
    · have hg := HAT.out k hlt
      obtain ⟨c, hc⟩ : ∃ c, s[k] = c := ⟨_, rfl⟩
      rw [hc] at hg
      have htk := take_snoc1 hg
      have HNO := Lib.hid (fun h => all_false (p := attC) hg h)
      have HST := Lib.hid (show attC c = true → (l.take (k + 1)).all attC = true by intro h; rw [htk, all_snoc, HA.out, h]; rfl)
      clear hg htk
      by_cases ha : attC c = true
      · have HN := Lib.hid (HST.out ha)
        obtain ⟨h1, h2, h3, h4, h5, h6, h7, h8⟩ := attC_true ha
        have B2 : ((s[k].toNat : Int) == 9) = false := by rw [hc]; exact byte_no h2
        have B3 : ((s[k].toNat : Int) == 10) = false := by rw [hc]; exact byte_no h3
        have B4 : ((s[k].toNat : Int) == 12) = false := by rw [hc]; exact byte_no h4
        have B5 : ((s[k].toNat : Int) == 32) = false := by rw [hc]; exact byte_no h5
        have B6 : ((s[k].toNat : Int) == 47) = false := by rw [hc]; exact byte_no h6
        have B7 : ((s[k].toNat : Int) == 62) = false := by rw [hc]; exact byte_no h7
        have B8 : ((s[k].toNat : Int) == 61) = false := by rw [hc]; exact byte_no h8
        rcases (show c.toNat < 65 ∨ (65 ≤ c.toNat ∧ 90 < c.toNat) by omega) with hb | ⟨hb, hb'⟩
        case' inl => have D1 : decide (65 ≤ (s[k].toNat : Int)) = false := by rw [hc]; simp; omega
        case' inr =>
          have D1 : decide (65 ≤ (s[k].toNat : Int)) = true := by rw [hc]; simp; omega
          have D2 : decide ((s[k].toNat : Int) ≤ 90) = false := by rw [hc]; simp; omega
        all_goals
          clear h1 h2 h3 h4 h5 h6 h7 h8 ha hc
          go_wp2_with fail
          go_round
          case rel => exact ⟨k + 1, by go_num, by omega, HN⟩
          case measure => simp [intOf]; omega
      · have ha' : attC c = false := by simpa using ha
        have HF := Lib.hid (show attrB l = false by unfold attrB; rw [HNO.out ha']; simp)
        rcases attC_false ha' with ⟨h1, h2⟩ | h | h | h | h | h | h | h
        case' inl =>
          have D1 : decide (65 ≤ (s[k].toNat : Int)) = true := by rw [hc]; simp; omega
          have D2 : decide ((s[k].toNat : Int) ≤ 90) = true := by rw [hc]; simp; omega
          clear h1 h2
        case' inr.inl => have hv : (s[k].toNat : Int) = 9 := by rw [hc, h]; rfl
        case' inr.inr.inl => have hv : (s[k].toNat : Int) = 10 := by rw [hc, h]; rfl
        case' inr.inr.inr.inl => have hv : (s[k].toNat : Int) = 12 := by rw [hc, h]; rfl
        case' inr.inr.inr.inr.inl => have hv : (s[k].toNat : Int) = 32 := by rw [hc, h]; rfl
        case' inr.inr.inr.inr.inr.inl => have hv : (s[k].toNat : Int) = 47 := by rw [hc, h]; rfl
        case' inr.inr.inr.inr.inr.inr.inl => have hv : (s[k].toNat : Int) = 62 := by rw [hc, h]; rfl
        case' inr.inr.inr.inr.inr.inr.inr => have hv : (s[k].toNat : Int) = 61 := by rw [hc, h]; rfl
        all_goals
          first | clear h | skip
          clear ha ha' hc
          go_wp2_with fail
          go_ret
          exact ⟨by rw [HF.out]; rfl, hb1⟩
    · have hA : l.all attC = true := by
        have := HA.out
        rwa [List.take_of_length_le (by have := HZ.out; omega)] at this
      have HF := Lib.hid (show attrB l = (q && decide (0 < s.size)) by
        unfold attrB
        rw [HQ.out, hA, Bool.and_true]
        congr 1
        have := HZ.out
        cases l with
        | nil => simp at this; simp [this]
        | cons a t => simp at this; simp; omega)
      clear hA
      cases q with
      | false =>
        go_wp2_with fail
        go_ret
        exact ⟨by rw [HF.out]; rfl, hb1⟩
      | true =>
        have HF2 := Lib.hid (show attrB l = decide (0 < s.size) by rw [HF.out, Bool.true_and])
        by_cases hp : 0 < s.size
        case' pos => have D : decide (0 < s.size) = true := decide_eq_true hp
        case' neg => have D : decide (0 < s.size) = false := decide_eq_false hp
        all_goals
          rw [D] at HF2
          go_wp2_with fail
          go_ret
          exact ⟨by rw [HF2.out]; rfl, hb1⟩

end Go.Proofs.Ytialfafjoemppaa

/- Part ValR. -/
namespace Go.Proofs.Ytialfafjoemppaa
open Go.RowKit
set_option linter.unusedVariables false

/-- The value of the first attribute of a name. -/
def valA : List (ByteArray × ByteArray) → ByteArray → Option ByteArray
  | [], _ => none
  | a :: l, x => if a.1 = x then some a.2 else valA l x
theorem valA_none {l : List (ByteArray × ByteArray)} {x : ByteArray} : valA l x = none ↔ ∀ a ∈ l, a.1 ≠ x := by
  induction l with
  | nil => simp [valA]
  | cons a l ih =>
    unfold valA
    by_cases h : a.1 = x
    · simp [h]
    · simp [h, ih]
theorem valA_at {l : List (ByteArray × ByteArray)} {x : ByteArray} {k : Nat} {a : ByteArray × ByteArray} (h : ∀ b ∈ l.take k, b.1 ≠ x) (hk : l[k]? = some a) (ha : a.1 = x) : valA l x = some a.2 := by
  induction l generalizing k with
  | nil => simp at hk
  | cons b l ih =>
    cases k with
    | zero =>
      simp at hk
      subst hk
      unfold valA
      rw [if_pos ha]
    | succ k =>
      have hb := h b (by simp)
      unfold valA
      rw [if_neg hb]
      exact ih (k := k) (fun y hy => h y (by simp [hy])) (by simpa using hk)

theorem str_eq (a b : ByteArray) : (a.toList == b.toList) = decide (a = b) := by
  rw [eq_two]
  congr 1
  rw [eq_iff_iff]
  constructor
  · intro h
    apply ByteArray.ext
    exact Array.toList_inj.1 h
  · intro h
    rw [h]

structure ValAt (w wr : World) (l : List (ByteArray × ByteArray)) (x : ByteArray) (k : Nat) : Prop where
  le : k ≤ l.length
  is : ∀ b ∈ l.take k, b.1 ≠ x
  bel : Below w.heap.size w wr
  slot : True
def ValRel (w : World) (W : World) (l : List (ByteArray × ByteArray)) (x : ByteArray) (y : Value) (wr : World) : Prop := ∃ k : Nat, y = .int .i64 k ∧ ValAt w wr l x k ∧ wr = W

theorem ret_sb {a a' : ByteArray} {b b' : Bool} (h : a = a') (h' : b = b') : Ending.returned (.tuple #[.string a, .bool b]) = .returned (.tuple #[.string a', .bool b']) := by rw [h, h']

set_option maxHeartbeats 2000000 in
theorem valueR_any (S : Nat → Prop) (kind : Int) (nm tx : ByteArray) (l : List (ByteArray × ByteArray)) (va vk : Value) (x : ByteArray) (w : World) (hat : AttrsAt S w l va) (hS : ∀ b, S b → b < w.heap.size) (hsz : szA l ≤ 1000000) :
    Calls Try.prog 17 #[.agg #[.int .i64 kind, .string nm, va, .string tx, vk], .string x] w fun e w' =>
      e = .returned (.tuple #[.string ((valA l x).getD ⟨#[]⟩), .bool (valA l x).isSome]) ∧ Below w.heap.size w w' := by
  have hln := szA_len l
  have hat0 := hat
  obtain ⟨A, c, rfl, hc, _⟩ := hat
  have HAT := Lib.hid hat0
  clear hat0
  go_enter Try.func17, Try.ntmps17
  go_wp2_with fail
  go_loop [6] (fun y => ∃ k : Nat, y = .int .i64 k ∧ k ≤ l.length ∧ Hid (∀ b ∈ l.take k, b.1 ≠ x)) (fun y => l.length - (intOf y).toNat)
  case atStart => exact ⟨0, rfl, by omega, Lib.hid (by simp)⟩
  case round =>
    obtain ⟨k, rfl, hk, HA⟩ := hrel
    by_cases hlt : k < l.length
    · obtain ⟨b, o, c', hv, _, hSb, hcell⟩ := HAT.out.at_ (by omega)
      injection hv with hA _ hcc
      subst hA
      subst hcc
      obtain ⟨a, ha⟩ : ∃ a, l[k]? = some a := ⟨_, List.getElem?_eq_getElem hlt⟩
      have hbw := hS b hSb
      obtain ⟨q0, q1⟩ := hcell k a ha
      have HK := Lib.hid ha
      have hne : b ≠ w.heap.size := by omega
      by_cases hx : a.1 = x
      · have he : (a.1.toList == x.toList) = true := by rw [str_eq]; simp [hx]
        have HF := Lib.hid (valA_at HA.out ha hx)
        clear hcell ha hx
        go_wp2_with fail
        go_ret2
        exact ⟨by rw [HF.out]; rfl, below_new _ _⟩
      · have he : (a.1.toList == x.toList) = false := by rw [str_eq]; simp [hx]
        have HN := Lib.hid (show ∀ b ∈ l.take (k + 1), b.1 ≠ x by
          intro y hy
          rw [List.take_add_one, ha] at hy
          rcases List.mem_append.1 hy with hy | hy
          · exact HA.out y hy
          · simp at hy
            subst hy
            exact hx)
        clear hcell ha hx
        go_wp2_with fail
        go_round
        case rel => exact ⟨k + 1, by go_num, by omega, HN⟩
        case measure => simp [intOf]; omega
    · have HF := Lib.hid (show valA l x = none by
        have := HA.out
        rw [List.take_of_length_le (by omega)] at this
        exact valA_none.2 this)
      go_wp2_with fail
      go_ret2
      exact ⟨by rw [HF.out]; rfl, below_new _ _⟩

end Go.Proofs.Ytialfafjoemppaa
