/- Parts of the proof, in build order: SameN BldW TreeP. -/
import Derived.Test.YtfdgmoakobjohaaK02
import Derived.Test.YtfdgmoakobjohaaK03
import Derived.Test.YtfdgmoakobjohaaK09
import Derived.BigQuiet
import Derived.Test.YtfdgmoakobjohaaK10
import Derived.Test.YtfdgmoakobjohaaK15

/- Part SameN. -/
namespace Go.Proofs.Ytfdgmoakobjohaa
open Go.RowKit
set_option linter.unusedVariables false

mutual
def sameN : Nd → Nd → Bool
  | .mk k n a t ks, .mk k' n' a' t' ks' => decide (k = k') && decide (n = n') && decide (t = t') && decide (a = a') && sameL ks ks'
/-- All is the same. -/
def sameL : List Nd → List Nd → Bool
  | [], [] => true
  | x :: l, y :: m => sameN x y && sameL l m
  | _, _ => false
end
theorem sameL_cons (x y : Nd) (l m : List Nd) : sameL (x :: l) (y :: m) = (sameN x y && sameL l m) := by simp [sameL]
theorem sameN_eq (x y : Nd) : sameN x y = (decide (x.kind = y.kind) && decide (x.name = y.name) && decide (x.text = y.text) && decide (x.attrs = y.attrs) && sameL x.kids y.kids) := by
  cases x
  cases y
  simp only [sameN, Nd.kind, Nd.name, Nd.text, Nd.attrs, Nd.kids]
  rfl
theorem nd_ext' {a b : Nd} (h1 : a.kind = b.kind) (h2 : a.name = b.name) (h3 : a.attrs = b.attrs) (h4 : a.text = b.text) (h5 : a.kids = b.kids) : a = b := by
  cases a
  cases b
  simp only [Nd.kind, Nd.name, Nd.attrs, Nd.text, Nd.kids] at h1 h2 h3 h4 h5
  subst h1 h2 h3 h4 h5
  rfl
theorem sameL_iff : ∀ a b : List Nd, sameL a b = true ↔ a = b := by
  intro a
  induction a using nd_ind with
  | h a ih =>
    have key : ∀ (m : List Nd), (∀ x ∈ m, ∀ b, sameL x.kids b = true ↔ x.kids = b) → ∀ b, sameL m b = true ↔ m = b := by
      intro m
      induction m with
      | nil => intro _ b; cases b <;> simp [sameL]
      | cons x m ihm =>
        intro h b
        cases b with
        | nil => simp [sameL]
        | cons y b =>
          rw [sameL_cons, Bool.and_eq_true, ihm (fun z hz => h z (by simp [hz])), sameN_eq, Bool.and_eq_true, Bool.and_eq_true, Bool.and_eq_true, Bool.and_eq_true, h x (by simp), decide_eq_true_eq, decide_eq_true_eq, decide_eq_true_eq, decide_eq_true_eq]
          constructor
          · rintro ⟨⟨⟨⟨⟨h1, h2⟩, h3⟩, h4⟩, h5⟩, rfl⟩
            rw [nd_ext' h1 h2 h4 h3 h5]
          · intro e
            injection e with e1 e2
            subst e1
            exact ⟨⟨⟨⟨⟨rfl, rfl⟩, rfl⟩, rfl⟩, rfl⟩, e2⟩
    exact key a fun x hx b => by
      obtain ⟨i, hi, he⟩ := List.mem_iff_getElem.1 hx
      exact ih i x (by rw [List.getElem?_eq_getElem hi, he]) b
theorem sameL_ne {a b : List Nd} (h : a ≠ b) : sameL a b = false := by
  cases hs : sameL a b with
  | false => rfl
  | true => exact absurd ((sameL_iff a b).1 hs) h
theorem ne_at {a b : List Nd} {k : Nat} {x y : Nd} (hx : a[k]? = some x) (hy : b[k]? = some y) (h : x ≠ y) : sameL a b = false := sameL_ne fun e => by
  subst e
  rw [hx] at hy
  exact h (Option.some.inj hy)

structure SmAt (w wr : World) (a b : List Nd) (i : Nat) : Prop where
  le : i ≤ a.length
  eq : a.take i = b.take i
  bel : Below w.heap.size w wr
def SmRel (w : World) (a b : List Nd) (x : Value) (wr : World) : Prop := ∃ i : Nat, x = .int .i64 i ∧ SmAt w wr a b i
structure SmIn (w wo wr : World) (u u' v v' : Value) (p q : List (ByteArray × ByteArray)) (j : Nat) : Prop where
  le : j ≤ p.length
  eq : p.take j = q.take j
  c0 : wr.cell? ⟨wo.heap.size, 2, none⟩ = some u
  c1 : wr.cell? ⟨wo.heap.size + 1, 2, none⟩ = some u'
  d0 : wr.cell? ⟨wo.heap.size, 4, none⟩ = some v
  d1 : wr.cell? ⟨wo.heap.size + 1, 4, none⟩ = some v'
  lt : wo.heap.size + 1 < wr.heap.size
  bel : Below w.heap.size w wr
def SmInR (w wo : World) (u u' v v' : Value) (p q : List (ByteArray × ByteArray)) (x : Value) (wr : World) : Prop := ∃ j : Nat, x = .int .i64 j ∧ SmIn w wo wr u u' v v' p q j

theorem take_same {α : Type} {a b : List α} {k : Nat} {x : α} (h : a.take k = b.take k) (hx : a[k]? = some x) (hy : b[k]? = some x) : a.take (k + 1) = b.take (k + 1) := by
  rw [List.take_add_one, List.take_add_one, h, hx, hy]

set_option maxHeartbeats 8000000 in
set_option maxRecDepth 100000 in
theorem sameR_any (a : List Nd) : ∀ (b : List Nd) (S S' : Nat → Prop) (v v' : Value) (w : World), Tree S w a v → Tree S' w b v' → (∀ k, S k → k < w.heap.size) → (∀ k, S' k → k < w.heap.size) → szL a ≤ 1000000 → szL b ≤ 1000000 →
    Calls Try.prog 14 #[v, v'] w fun e w' => e = .returned (.bool (sameL a b)) ∧ Below w.heap.size w w' := by
  induction a using nd_ind with
  | h a ih =>
  intro b S S' v v' w hT hT' hS hS' hsz hsz'
  have hlen := szL_len a
  have hlen' := szL_len b
  obtain ⟨A, c, rfl, hc⟩ := hT.shape
  obtain ⟨A', c', rfl, hc'⟩ := hT'.shape
  have HT := Lib.hid hT
  have HT' := Lib.hid hT'
  have HIH := Lib.hid ih
  clear hT hT' ih
  by_cases hab : a.length = b.length
  · have HAB := Lib.hid hab
    obtain ⟨n, hn⟩ : ∃ n, a.length = n := ⟨_, rfl⟩
    have hnb : b.length = n := by omega
    rw [hn] at hlen hc ⊢
    rw [hnb] at hlen' hc' ⊢
    have HN := Lib.hid hn
    have HNB := Lib.hid hnb
    clear hn hnb hab
    go_enter Try.func14, Try.ntmps14
    go_wp2_with fail
    go_loopw [5, 6, 7, 8, 9] (fun x _ _ _ _ wr => SmRel w a b x wr) (fun x _ _ _ _ _ => n - (intOf x).toNat)
    case atStart => exact ⟨0, rfl, ⟨by omega, by simp, Below.refl _ _⟩⟩
    case round =>
      obtain ⟨i, rfl, HR⟩ := hrel
      obtain ⟨hi, heq, hbr⟩ := HR
      have HEQ := Lib.hid heq
      rw [HN.out] at hi
      clear heq
      by_cases hlt : i < n
      · obtain ⟨bb, o, cc, hv, _, hSb, hcell⟩ := HT.out.open_ (by have := HN.out; omega)
        obtain ⟨bb', o', cc', hv', _, hSb', hcell'⟩ := HT'.out.open_ (by have := HNB.out; omega)
        injection hv with hA _ hcc
        injection hv' with hA' _ hcc'
        subst hA
        subst hcc
        subst hA'
        subst hcc'
        obtain ⟨x, hx⟩ : ∃ x, a[i]? = some x := ⟨_, List.getElem?_eq_getElem (by have := HN.out; omega)⟩
        obtain ⟨y, hy⟩ : ∃ y, b[i]? = some y := ⟨_, List.getElem?_eq_getElem (by have := HNB.out; omega)⟩
        obtain ⟨xa, xk, hxt⟩ := hcell i x hx
        obtain ⟨ya, yk, hyt⟩ := hcell' i y hy
        have hb := hS bb hSb
        have hb' := hS' bb' hSb'
        have hzx := szL_at hx
        have hzy := szL_at hy
        have hzk := szL_kids hx
        have hzk' := szL_kids hy
        rw [szN_eq] at hzx hzy
        have hal := szA_len x.attrs
        have hal' := szA_len y.attrs
        obtain ⟨A1, c1, rfl, _, _⟩ := id hxt.at_
        obtain ⟨A2, c2, rfl, _⟩ := hxt.kids.shape
        obtain ⟨A3, c3, rfl, _, _⟩ := id hyt.at_
        obtain ⟨A4, c4, rfl, _⟩ := hyt.kids.shape
        have q0 : wr.cell? ⟨bb, o + i * 5, none⟩ = some (.int .i64 x.kind) := (hbr.cell (p := ⟨bb, o + i * 5, none⟩) hb).trans hxt.c0
        have q1 : wr.cell? ⟨bb, o + i * 5 + 1, none⟩ = some (.string x.name) := (hbr.cell (p := ⟨bb, o + i * 5 + 1, none⟩) hb).trans hxt.c1
        have q2 : wr.cell? ⟨bb, o + i * 5 + 2, none⟩ = some (.slice A1 x.attrs.length c1) := (hbr.cell (p := ⟨bb, o + i * 5 + 2, none⟩) hb).trans hxt.c2
        have q3 : wr.cell? ⟨bb, o + i * 5 + 3, none⟩ = some (.string x.text) := (hbr.cell (p := ⟨bb, o + i * 5 + 3, none⟩) hb).trans hxt.c3
        have q4 : wr.cell? ⟨bb, o + i * 5 + 4, none⟩ = some (.slice A2 x.kids.length c2) := (hbr.cell (p := ⟨bb, o + i * 5 + 4, none⟩) hb).trans hxt.c4
        have r0 : wr.cell? ⟨bb', o' + i * 5, none⟩ = some (.int .i64 y.kind) := (hbr.cell (p := ⟨bb', o' + i * 5, none⟩) hb').trans hyt.c0
        have r1 : wr.cell? ⟨bb', o' + i * 5 + 1, none⟩ = some (.string y.name) := (hbr.cell (p := ⟨bb', o' + i * 5 + 1, none⟩) hb').trans hyt.c1
        have r2 : wr.cell? ⟨bb', o' + i * 5 + 2, none⟩ = some (.slice A3 y.attrs.length c3) := (hbr.cell (p := ⟨bb', o' + i * 5 + 2, none⟩) hb').trans hyt.c2
        have r3 : wr.cell? ⟨bb', o' + i * 5 + 3, none⟩ = some (.string y.text) := (hbr.cell (p := ⟨bb', o' + i * 5 + 3, none⟩) hb').trans hyt.c3
        have r4 : wr.cell? ⟨bb', o' + i * 5 + 4, none⟩ = some (.slice A4 y.kids.length c4) := (hbr.cell (p := ⟨bb', o' + i * 5 + 4, none⟩) hb').trans hyt.c4
        have i1 : (i : Int) < (n : Int) := by omega
        have i2 : (0 : Int) ≤ (i : Int) := by omega
        have HX := Lib.hid hx
        have HY := Lib.hid hy
        have HXA := Lib.hid hxt.at_
        have HYA := Lib.hid hyt.at_
        have HKD := Lib.hid (fun (W : World) (hW : Below w.heap.size w W) => HIH.out i x hx y.kids S S' (.slice A2 x.kids.length c2) (.slice A4 y.kids.length c4) W (hxt.kids.keep (Kept.belowB hW hS)) (hyt.kids.keep (Kept.belowB hW hS')) (fun k h => Nat.lt_of_lt_of_le (hS k h) hW.size) (fun k h => Nat.lt_of_lt_of_le (hS' k h) hW.size) (by omega) (by omega))
        have hs1 := str_eq x.name y.name
        have hs2 := str_eq x.text y.text
        have HNE := Lib.hid (fun (h : x ≠ y) => ne_at hx hy h)
        have HXY := Lib.hid (@nd_ext' x y)
        have hBB : Below w.heap.size w ((wr.alloc (.cells #[.int .i64 x.kind, .string x.name, .slice A1 x.attrs.length c1, .string x.text, .slice A2 x.kids.length c2] 37)).alloc (.cells #[.int .i64 y.kind, .string y.name, .slice A3 y.attrs.length c3, .string y.text, .slice A4 y.kids.length c4] 37)) :=
          (hbr.alloc hbr.size _).alloc (by have := hbr.size; simp; omega) _
        have mm : bb' < wr.heap.size := Nat.lt_of_lt_of_le hb' hbr.size
        have mm2 : bb' ≠ wr.heap.size := by omega
        clear hcell hcell' hx hy hxt hyt
        by_cases e0 : x.kind = y.kind
        · have B0 : (x.kind != y.kind) = false := by simp [e0]
          by_cases e1 : x.name = y.name
          · rw [decide_eq_true e1] at hs1
            by_cases e2 : x.text = y.text
            · rw [decide_eq_true e2] at hs2
              by_cases e3 : x.attrs.length = y.attrs.length
              · have B3 : ((x.attrs.length : Int) != (y.attrs.length : Int)) = false := by simp [e3]
                have HE := Lib.hid (And.intro e0 (And.intro e1 (And.intro e2 e3)))
                clear e0 e1 e2 e3
                go_wp2_with fail
                obtain ⟨wo, rfl⟩ : ∃ wo : World, wo = wr := ⟨_, rfl⟩
                go_loopw [8] (fun z wx => SmInR w wo (.slice A1 x.attrs.length c1) (.slice A3 y.attrs.length c3) (.slice A2 x.kids.length c2) (.slice A4 y.kids.length c4) x.attrs y.attrs z wx) (fun z _ => x.attrs.length - (intOf z).toNat)
                case atStart => exact ⟨0, rfl, ⟨by omega, by simp, by simp, by simp, by simp, by simp, by simp, hBB⟩⟩
                case round =>
                  obtain ⟨j, rfl, HI⟩ := hrel
                  obtain ⟨hj, hje, g0, g1, g2, g3, hgl, hbx⟩ := HI
                  have HJE := Lib.hid hje
                  clear hje q0 q1 q2 q3 q4 r0 r1 r2 r3 r4 hs1 hs2 hBB mm mm2
                  by_cases hlj : j < x.attrs.length
                  · have hly : j < y.attrs.length := by have := HE.out.2.2.2; omega
                    obtain ⟨d, m, cm, hv3, _, hSd, hatt⟩ := HXA.out.at_ (by omega)
                    obtain ⟨d', m', cm', hv4, _, hSd', hatt'⟩ := HYA.out.at_ (by omega)
                    injection hv3 with hA3 _ hcc3
                    injection hv4 with hA4 _ hcc4
                    subst hA3
                    subst hcc3
                    subst hA4
                    subst hcc4
                    obtain ⟨p, hp⟩ : ∃ p, x.attrs[j]? = some p := ⟨_, List.getElem?_eq_getElem hlj⟩
                    obtain ⟨q, hq⟩ : ∃ q, y.attrs[j]? = some q := ⟨_, List.getElem?_eq_getElem hly⟩
                    have hd := hS d hSd
                    have hd' := hS' d' hSd'
                    have p0 : wr.cell? ⟨d, m + j * 2, none⟩ = some (.string p.1) := (hbx.cell (p := ⟨d, m + j * 2, none⟩) hd).trans (hatt j p hp).1
                    have p1 : wr.cell? ⟨d, m + j * 2 + 1, none⟩ = some (.string p.2) := (hbx.cell (p := ⟨d, m + j * 2 + 1, none⟩) hd).trans (hatt j p hp).2
                    have u0 : wr.cell? ⟨d', m' + j * 2, none⟩ = some (.string q.1) := (hbx.cell (p := ⟨d', m' + j * 2, none⟩) hd').trans (hatt' j q hq).1
                    have u1 : wr.cell? ⟨d', m' + j * 2 + 1, none⟩ = some (.string q.2) := (hbx.cell (p := ⟨d', m' + j * 2 + 1, none⟩) hd').trans (hatt' j q hq).2
                    have i3 : (j : Int) < (x.attrs.length : Int) := by omega
                    have i4 : (0 : Int) ≤ (j : Int) := by omega
                    have i5 : (j : Int) < (y.attrs.length : Int) := by omega
                    have hk1 := str_eq p.1 q.1
                    have hk2 := str_eq p.2 q.2
                    have HP := Lib.hid hp
                    have HQ := Lib.hid hq
                    clear hatt hatt' hp hq hly
                    by_cases f1 : p.1 = q.1
                    · rw [decide_eq_true f1] at hk1
                      by_cases f2 : p.2 = q.2
                      · rw [decide_eq_true f2] at hk2
                        have HPQ := Lib.hid (show p = q from Prod.ext f1 f2)
                        clear f1 f2
                        go_wp2_with fail
                        go_quiet (fail)
                        go_wp2_with fail
                        go_roundw
                        case rel => exact ⟨j + 1, by go_num, by omega, take_same HJE.out HP.out (by rw [HPQ.out]; exact HQ.out), g0, g1, g2, g3, hgl, dN_below hbx _⟩
                        case measure => simp [intOf]; omega
                      · rw [decide_eq_false f2] at hk2
                        have HF := Lib.hid (HNE.out fun e => f2 (by have h1 := HP.out; have h2 := HQ.out; rw [e, h2] at h1; injection h1 with h1; rw [h1]))
                        clear f1 f2
                        go_wp2_with fail
                        go_quiet (fail)
                        go_wp2_with fail
                        go_ret
                        rw [HF.out]
                        exact ⟨rfl, dN_below hbx _⟩
                    · rw [decide_eq_false f1] at hk1
                      have HF := Lib.hid (HNE.out fun e => f1 (by have h1 := HP.out; have h2 := HQ.out; rw [e, h2] at h1; injection h1 with h1; rw [h1]))
                      clear f1
                      go_wp2_with fail
                      go_quiet (fail)
                      go_wp2_with fail
                      go_ret
                      rw [HF.out]
                      exact ⟨rfl, dN_below hbx _⟩
                  · have hjl : j = x.attrs.length := by omega
                    have HAT := Lib.hid (show x.attrs = y.attrs by
                      have h1 := HJE.out
                      rwa [List.take_of_length_le (by omega), List.take_of_length_le (by have := HE.out.2.2.2; omega)] at h1)
                    have HK := Lib.hid (HKD.out wr hbx)
                    obtain ⟨r, hr⟩ : ∃ r, sameL x.kids y.kids = r := ⟨_, rfl⟩
                    rw [hr] at HK
                    have HR := Lib.hid hr
                    clear hr
                    go_wp2_with fail
                    refine HK.out.mono ?_
                    rintro e w3 ⟨rfl, hb3⟩
                    have hB3 := below_after hbx hb3
                    cases r with
                    | true =>
                      have HEQX := Lib.hid (HXY.out HE.out.1 HE.out.2.1 HAT.out HE.out.2.2.1 ((sameL_iff _ _).1 HR.out))
                      go_wp2_with fail
                      go_roundw
                      case rel => exact ⟨i + 1, by go_num, by have := HN.out; omega, take_same HEQ.out HX.out (by rw [HEQX.out]; exact HY.out), hB3⟩
                      case measure => simp [intOf]; omega
                    | false =>
                      have HF := Lib.hid (HNE.out fun e => by
                        have h1 := HR.out
                        rw [e, (sameL_iff y.kids y.kids).2 rfl] at h1
                        cases h1)
                      go_wp2_with fail
                      go_ret
                      rw [HF.out]
                      exact ⟨rfl, hB3⟩
              · have B3 : ((x.attrs.length : Int) != (y.attrs.length : Int)) = true := by simp; omega
                have HF := Lib.hid (HNE.out fun e => e3 (by rw [e]))
                clear e0 e1 e2 e3
                go_wp2_with fail
                go_ret
                rw [HF.out]
                exact ⟨rfl, hBB⟩
            · rw [decide_eq_false e2] at hs2
              have HF := Lib.hid (HNE.out fun e => e2 (by rw [e]))
              clear e0 e1 e2
              go_wp2_with fail
              go_ret
              rw [HF.out]
              exact ⟨rfl, hBB⟩
          · rw [decide_eq_false e1] at hs1
            have HF := Lib.hid (HNE.out fun e => e1 (by rw [e]))
            clear e0 e1
            go_wp2_with fail
            go_ret
            rw [HF.out]
            exact ⟨rfl, hBB⟩
        · have B0 : (x.kind != y.kind) = true := by simp [e0]
          have HF := Lib.hid (HNE.out fun e => e0 (by rw [e]))
          clear e0
          go_wp2_with fail
          go_ret
          rw [HF.out]
          exact ⟨rfl, hBB⟩
      · have hke : i = n := by omega
        have HF := Lib.hid (show sameL a b = true by
          rw [sameL_iff]
          have h1 := HEQ.out
          rwa [List.take_of_length_le (by have := HN.out; omega), List.take_of_length_le (by have := HNB.out; omega)] at h1)
        go_wp2_with fail
        go_ret
        rw [HF.out]
        exact ⟨rfl, hbr⟩
  · have B0 : ((a.length : Int) != (b.length : Int)) = true := by simp; omega
    have HF := Lib.hid (show sameL a b = false from sameL_ne fun e => hab (by rw [e]))
    clear hab
    go_enter Try.func14, Try.ntmps14
    go_wp2_with fail
    go_ret
    rw [HF.out]
    exact ⟨rfl, Below.refl _ _⟩

end Go.Proofs.Ytfdgmoakobjohaa

/- Part BldW. -/
namespace Go.Proofs.Ytfdgmoakobjohaa
open Go.RowKit
set_option linter.unusedVariables false

def zzS : ByteArray := ⟨#[122, 122]⟩
/-- The tokens that are not of the name zz. -/
def notZ (k : Tk) : Bool := !decide (k.name = zzS)
theorem notZ_list (k : Tk) : notZ k = !(k.name.toList == [122, 122]) := by
  unfold notZ
  rw [eqs]
  congr 1
  rw [decide_eq_decide]
  exact ⟨fun h => by rw [h]; rfl, fun h => tB_eq h⟩
def bTk : Tk := ⟨1, zzS, [], ⟨#[]⟩⟩
def eTk : Tk := ⟨2, zzS, [], ⟨#[]⟩⟩
def cTk : Tk := ⟨3, ⟨#[]⟩, [], ⟨#[116]⟩⟩
theorem wraps_zz (own : List Tk) (h : ∀ k ∈ own, notZ k = true) : treeB ([bTk] ++ own ++ [eTk, cTk]) = [.mk 1 zzS [] (tB []) (treeB own), .mk 2 (tB []) [] ⟨#[116]⟩ []] := by
  refine tree_wraps (z := zzS) (t := ⟨#[116]⟩) (by decide +kernel) (fun b => ?_) (by decide) own (fun k hk e => ?_) bTk eTk cTk ⟨rfl, rfl, rfl⟩ ⟨rfl, rfl⟩ ⟨rfl, rfl⟩
  · unfold closesB
    rw [show closedBy zzS.data.toList = [] by decide +kernel]
    rfl
  · have := h k hk
    unfold notZ at this
    rw [decide_eq_true e] at this
    cases this
structure WrAt (w w1 wr : World) (l : List Tk) (k : Nat) (own : List Tk) (v : Value) : Prop where
  le : k ≤ l.length
  k30 : k ≤ 30
  is : own = (l.take k).filter notZ
  ow : OwnB wr w1.heap.size w.heap.size own v
  bel : Below w1.heap.size w1 wr
def WrRel (w w1 : World) (l : List Tk) (x y : Value) (wr : World) : Prop := ∃ (k : Nat) (own : List Tk), y = .int .i64 k ∧ WrAt w w1 wr l k own x

theorem szKs_filter (p : Tk → Bool) : ∀ l : List Tk, szKs (l.filter p) ≤ szKs l
  | [] => by simp
  | k :: l => by
    have := szKs_filter p l
    rw [List.filter_cons]
    split
    · simp only [szKs]; omega
    · simp only [szKs]; omega
theorem szKs_some (l : List Tk) (k : Nat) : szKs (l.take k) ≤ szKs l := by
  have : szKs l = szKs (l.take k) + szKs (l.drop k) := by rw [← szKs_append, List.take_append_drop]
  omega
/-- Two tokens, where they were laid. -/
theorem two_toks {S : Nat → Prop} {W : World} {b : Nat} {t : TypeId} (h : W.heap[b]? = some (.cells #[.int .i64 2, .string zzS, .slice none 0 0, .string ⟨#[]⟩, .int .i64 3, .string ⟨#[]⟩, .slice none 0 0, .string ⟨#[116]⟩] t (0, 0))) (hS : S b) :
    TokAt S W [eTk, cTk] (.slice (some ⟨b, 0, none⟩) 2 2) :=
  ⟨[(eTk, .slice none 0 0), (cTk, .slice none 0 0)], some ⟨b, 0, none⟩, 2, rfl, rfl, Nat.le_refl _, cells_here h hS _ rfl, fun r hr => by
    simp at hr
    rcases hr with rfl | rfl <;> exact AttrsAt.nil _ _⟩
theorem one_own (w : World) (lo : Nat) (h : lo ≤ w.heap.size) :
    OwnB (w.alloc (.cells #[.int .i64 1, .string zzS, .slice none 0 0, .string ⟨#[]⟩] 34)) w.heap.size lo [bTk] (.slice (some ⟨w.heap.size, 0, none⟩) 1 1) := by
  refine ⟨[(bTk, .slice none 0 0)], rfl, ?_, fun r hr => by simp at hr; subst hr; exact AttrsAt.nil _ _⟩
  have := World.ownsRow_lit (base := w.heap.size) (e := 34) (size := 4) w #[.int .i64 1, .string zzS, .slice none 0 0, .string ⟨#[]⟩] 1 (Nat.le_refl _) (by unfold maxLen; omega) rfl
  exact this

set_option maxHeartbeats 4000000 in
set_option maxRecDepth 100000 in
theorem buildWraps_end {Inv : Nat → List Tk → Value → World → Prop} (HTR : TreesSaid) (HB : BldSaid Inv) (l : List Tk) (v : Value) (w : World) (hT : TokAt (· < w.heap.size) w l v) (hl : l.length ≤ maxLen) (hF : ∀ k ∈ l, FineK k) (HGB : Glob w) :
    Calls Try.prog 5 #[v] w fun e w' => e = .returned (.bool true) ∧ Below w.heap.size w w' := by
  have HCUT := Lib.hid (cutT_any l v w hT hl hF)
  clear hT hl hF
  go_enter Try.func5, Try.ntmps5
  go_wp2_with fail
  refine HCUT.out.mono ?_
  rintro e w1 ⟨out, v1, rfl, ho1, hol, hoz, hkw, hb1⟩
  have ht1 : TokAt (fun b => w.heap.size ≤ b ∧ b < w1.heap.size) w1 out v1 := ho1.tokAt
  obtain ⟨A, c, rfl, hc⟩ := ht1.shape
  have HT1 := Lib.hid ht1
  clear ho1 ht1
  go_wp2_with fail
  go_loopw [3, 5] (fun x y wr => WrRel w w1 out x y wr) (fun _ y _ => out.length - (intOf y).toNat)
  case atStart => exact ⟨0, [], rfl, by omega, by omega, rfl, OwnB.nil _ _ _, Below.refl _ _⟩
  case round =>
    obtain ⟨k, own, rfl, hk, hk30, his, hown, hbr⟩ := hrel
    have HIS := Lib.hid his
    have HOWN := Lib.hid hown
    clear his hown
    have hwz := hbr.size
    have hlol : own.length ≤ 40 := by
      rw [HIS.out]
      have := List.length_filter_le notZ (out.take k)
      rw [List.length_take] at this
      omega
    by_cases hlt : k < out.length ∧ k < 30
    · obtain ⟨hlt, h30⟩ := hlt
      obtain ⟨b, o, c', hv, _, hb, hcell⟩ := HT1.out.open_ (by omega)
      injection hv with hA _ hcc
      subst hA
      subst hcc
      obtain ⟨t, ht⟩ : ∃ t, out[k]? = some t := ⟨_, List.getElem?_eq_getElem hlt⟩
      obtain ⟨va, hat⟩ := hcell k t ht
      have q0 : wr.cell? ⟨b, o + k * 4, none⟩ = some (.int .i64 t.kind) := (hbr.cell (p := ⟨b, o + k * 4, none⟩) hb.2).trans hat.c0
      have q1 : wr.cell? ⟨b, o + k * 4 + 1, none⟩ = some (.string t.name) := (hbr.cell (p := ⟨b, o + k * 4 + 1, none⟩) hb.2).trans hat.c1
      have q2 : wr.cell? ⟨b, o + k * 4 + 2, none⟩ = some va := (hbr.cell (p := ⟨b, o + k * 4 + 2, none⟩) hb.2).trans hat.c2
      have q3 : wr.cell? ⟨b, o + k * 4 + 3, none⟩ = some (.string t.text) := (hbr.cell (p := ⟨b, o + k * 4 + 3, none⟩) hb.2).trans hat.c3
      have HAT := Lib.hid hat
      obtain ⟨A2, c2, rfl, _, _⟩ := id HAT.out.at_
      have i1 : (k : Int) < (out.length : Int) := by omega
      have i2 : (k : Int) < 30 := by omega
      have hnx : (out.take (k + 1)).filter notZ = own ++ (if notZ t = true then [t] else []) := by
        rw [List.take_add_one, ht, Option.toList_some, List.filter_append, ← HIS.out, List.filter_cons, List.filter_nil]
      have HNX := Lib.hid hnx
      clear hcell ht hat hnx
      obtain ⟨z, hz⟩ : ∃ z, notZ t = z := ⟨_, rfl⟩
      rw [hz] at HNX
      have B1 : (!(t.name.toList == [122, 122])) = z := by rw [← notZ_list, hz]
      clear hz
      cases z with
      | true =>
        have hb4 : Below wr.heap.size wr (wr.alloc (.cells #[.int .i64 t.kind, .string t.name, .slice A2 t.attrs.length c2, .string t.text] 34)) := below_new _ _
        have hlt4 : ∀ g, u3.ownBlock = some g → w1.heap.size ≤ g ∧ g < wr.heap.size := HOWN.out.lt
        have HB4 := Lib.hid (hbr.trans (hb4.mono hwz))
        have HOW4 := Lib.hid (HOWN.out.later hb4)
        have hat4 : AttrsAt (Sub w.heap.size (wr.alloc (.cells #[.int .i64 t.kind, .string t.name, .slice A2 t.attrs.length c2, .string t.text] 34)) u3) (wr.alloc (.cells #[.int .i64 t.kind, .string t.name, .slice A2 t.attrs.length c2, .string t.text] 34)) t.attrs (.slice A2 t.attrs.length c2) := by
          refine (HAT.out.at_.keep (Kept.below HB4.out fun b h => h.2)).mono fun x hx => ⟨hx.1, Nat.lt_of_lt_of_le hx.2 HB4.out.size, fun e => ?_⟩
          have := (hlt4 _ e).1
          omega
        have HAT4 := Lib.hid hat4
        have HLT := Lib.hid hlt4
        have HS4 := Lib.hid (show Sub w.heap.size (wr.alloc (.cells #[.int .i64 t.kind, .string t.name, .slice A2 t.attrs.length c2, .string t.text] 34)) u3 wr.heap.size from
          ⟨by have := hb1.size; omega, by rw [World.size_alloc]; omega, fun e => by have := (hlt4 _ e).2; omega⟩)
        clear hat4 hb4 hlt4
        go_wp2_with (at_builtin; refine wpList_append_tokB rfl _ _ rfl w1.heap.size w.heap.size own _ rfl HOW4.out t _ wr.heap.size rfl (alloc_here' rfl) HS4.out HAT4.out (by omega) HB4.out.size ?_; intro v' w5 hown5 hg5)
        have hb5 := HB4.out.grown hg5 HB4.out.size (fun g hg => (HLT.out g hg).1)
        have HOWN5 := Lib.hid hown5
        clear hown5 hg5
        go_roundw
        case rel => exact ⟨k + 1, _, by go_num, by omega, by omega, HNX.out.symm, HOWN5.out, hb5⟩
        case measure => simp [intOf]; omega
      | false =>
        go_wp2_with fail
        go_roundw
        case rel => exact ⟨k + 1, own, by go_num, by omega, by omega, by rw [HNX.out]; simp, HOWN.out, hbr⟩
        case measure => simp [intOf]; omega
    · have hex : out.length ≤ k ∨ (k < out.length ∧ 30 ≤ k) := by omega
      have hfl : ∀ q ∈ own, notZ q = true := by
        rw [HIS.out]
        intro q hq
        exact (List.mem_filter.1 hq).2
      have hoz2 : szKs own ≤ 16800 := by
        rw [HIS.out]
        have h1 := szKs_filter notZ (out.take k)
        have h2 := szKs_some out k
        omega
      have hkw2 : ∀ q ∈ own, Kw q := by
        rw [HIS.out]
        intro q hq
        exact hkw q (List.mem_of_mem_take (List.mem_filter.1 hq).1)
      have HKW2 := Lib.hid hkw2
      have HKW3 := Lib.hid (show ∀ q ∈ [bTk] ++ own ++ [eTk, cTk], Kw q from by
        intro q hq
        rcases List.mem_append.1 hq with hq | hq
        · rcases List.mem_append.1 hq with hq | hq
          · simp at hq
            subst hq
            unfold Kw
            decide
          · exact hkw2 q hq
        · simp at hq
          rcases hq with rfl | rfl <;> (unfold Kw; decide))
      clear hkw2
      have HFL := Lib.hid hfl
      have hbw := below_after hb1 hbr
      have HALL := Lib.hid (one_own wr w.heap.size hbw.size)
      have hTow : TokAt (fun b => w.heap.size ≤ b ∧ b < wr.heap.size) wr own u3 := HOWN.out.aside hb1.size (fun b h1 h2 => ⟨h1, h2⟩)
      have HTO := Lib.hid hTow
      have hoa : TokAt (Sub w.heap.size (wr.alloc (.cells #[.int .i64 1, .string zzS, .slice none 0 0, .string ⟨#[]⟩] 34)) (.slice (some ⟨wr.heap.size, 0, none⟩) 1 1)) (wr.alloc (.cells #[.int .i64 1, .string zzS, .slice none 0 0, .string ⟨#[]⟩] 34)) own u3 :=
        (hTow.keep (Kept.below (below_new _ _) fun b h => h.2)).mono fun b h => ⟨h.1, by rw [World.size_alloc]; omega, fun e => by injection e with e; have : wr.heap.size = b := e; omega⟩
      have HOA := Lib.hid hoa
      have hlen1 : [bTk].length + own.length ≤ 1000000 := by show 1 + own.length ≤ _; omega
      have hlen2 : ([bTk] ++ own).length + [eTk, cTk].length ≤ 1000000 := by rw [List.length_append]; show 1 + own.length + 2 ≤ _; omega
      have hws := hbw.size
      clear hfl hTow hoa
      rcases hex with hex | ⟨hex, hex30⟩
      all_goals
        go_wp2_with (at_builtin; first
          | (refine wpList_append_toks rfl _ _ rfl wr.heap.size w.heap.size [bTk] _ rfl HALL.out own _ rfl HOA.out hlen1 (by rw [World.size_alloc]; omega) ?_; intro v2 w2 hown2 hg2; have HB2 := Lib.hid ((below_new wr (.cells #[.int .i64 1, .string zzS, .slice none 0 0, .string ⟨#[]⟩] 34)).grown hg2 (Nat.le_of_lt (by rw [World.size_alloc]; omega)) (fun g hg => (HALL.out.lt g hg).1)); have HOW2 := Lib.hid hown2; have hz2 := HB2.out.size; clear hown2 hg2)
          | (refine wpList_append_toks rfl _ _ rfl wr.heap.size w.heap.size ([bTk] ++ own) _ rfl (HOW2.out.later (below_new _ _)) [eTk, cTk] _ rfl (two_toks (alloc_here' rfl) ⟨by omega, by rw [World.size_alloc]; omega, fun e => by have := (HOW2.out.lt _ e).2; omega⟩) hlen2 (by rw [World.size_alloc]; omega) ?_; intro v4 w4 hown4 hg4))
        have hb4 : Below wr.heap.size wr w4 := (HB2.out.alloc HB2.out.size _).grown hg4 (Nat.le_trans HB2.out.size (by rw [World.size_alloc]; omega)) (fun g hg => (HOW2.out.lt g hg).1)
        have ht4 : TokAt (· < w4.heap.size) w4 own u3 := (HTO.out.keep (Kept.below hb4 fun b h => h.2)).mono fun b h => Nat.lt_of_lt_of_le h.2 hb4.size
        have hc4 := below_after hbw hb4
        have HT4 := Lib.hid (HTR own u3 w4 (HGB.below hc4) ht4 HKW2.out (by omega))
        have HA4 := Lib.hid (hown4.aside (S := (· < w4.heap.size)) hws (fun b _ h => h))
        clear hown4 hg4 ht4
        refine HT4.out.mono ?_
        rintro e w5 ⟨v5, rfl, ht5, hb5⟩
        have hc5 := below_after hc4 hb5
        have hsz5 : szKs ([bTk] ++ own ++ [eTk, cTk]) ≤ 40000 := by
          rw [szKs_append, szKs_append]
          have h1 : szKs [bTk] = 12 := by decide
          have h2 : szKs [eTk, cTk] = 23 := by decide
          omega
        have HT5 := Lib.hid (HTR ([bTk] ++ own ++ [eTk, cTk]) v4 w5 (HGB.below hc5) ((HA4.out.stay hb5).mono fun b h => Nat.lt_of_lt_of_le h hb5.size) HKW3.out hsz5)
        have HR5 := Lib.hid ht5
        rw [wraps_zz own HFL.out] at HT5
        clear ht5 hsz5
        go_wp2_with fail
        refine HT5.out.mono ?_
        rintro e w6 ⟨v6, rfl, ht6, hb6⟩
        have hc6 := below_after hc5 hb6
        obtain ⟨b, o, c6, rfl, hl6, hS6, hcell⟩ := ht6.open_ (Nat.succ_pos _)
        obtain ⟨va0, vk0, h0⟩ := hcell 0 _ rfl
        obtain ⟨va1, vk1, h1⟩ := hcell 1 _ rfl
        have g1 : w6.cell? ⟨b, o + 1, none⟩ = some (.string zzS) := h0.c1
        have g4 : w6.cell? ⟨b, o + 4, none⟩ = some vk0 := h0.c4
        have g8 : w6.cell? ⟨b, o + 5 + 3, none⟩ = some (.string ⟨#[116]⟩) := h1.c3
        have htk : Tree (· < w6.heap.size) w6 (treeB own) vk0 := h0.kids
        have hti : Tree (· < w5.heap.size) w6 (treeB own) v5 := HR5.out.stay hb6
        have hz6 := tree_sz own
        have HSM := Lib.hid (sameR_any (treeB own) (treeB own) (· < w6.heap.size) (· < w5.heap.size) vk0 v5 w6 htk hti (fun k h => h) (fun k h => Nat.lt_of_lt_of_le h hb6.size) (by omega) (by omega))
        rw [(sameL_iff _ _).2 rfl] at HSM
        obtain ⟨A7, c7, rfl, _⟩ := htk.shape
        clear hcell h0 h1 ht6 htk hti
        unfold zzS at g1
        go_wp2_with fail
        refine HSM.out.mono ?_
        rintro e w7 ⟨rfl, hb7⟩
        have hc7 := below_after hc6 hb7
        have g9 : w7.cell? ⟨b, o + 5 + 3, none⟩ = some (.string ⟨#[116]⟩) := (hb7.cell (p := ⟨b, o + 5 + 3, none⟩) hS6).trans g8
        go_wp2_with fail
        refine (lives7_any HB _ (HGB.below hc7)).mono ?_
        rintro e w8 ⟨rfl, hb8⟩
        have hc8 := below_after hc7 hb8
        go_wp2_with fail
        go_ret
        exact ⟨rfl, hc8⟩

end Go.Proofs.Ytfdgmoakobjohaa

/- Part TreeP. -/
namespace Go.Proofs.Ytfdgmoakobjohaa
open Go.RowKit
set_option linter.unusedVariables false

/-- A list more. -/
theorem wpList_append_treeK {w : World} {ops : Array Oper} {rest : List Oper} {o : Oper} {a : Act} {Q : Exit → Act → World → Prop} (hgd : o.guard = none) (s x : Operand)
    (ho : o.op = .call { callee := .builtin .append, args := #[s, x], argTypes := #[24, 24] })
    (base : Nat) (P : Nat → Prop) (l : List Nd) (v : Value) (hs : a.eval s = v) (h : OwnK w base P l v) (m : List Nd) (vx : Value) (hx : a.eval x = vx) (hm : Tree (SubK P w v) w m vx)
    (hlen : l.length + m.length ≤ 1000000) (hbase : base ≤ w.heap.size)
    (hK : ∀ v' w', OwnK w' base P (l ++ m) v' → w.grownBy w' v.ownBlock → wpList Try.prog ops Q rest (a.put o.dst v') w') :
    wpList Try.prog ops Q (o :: rest) a w := by
  refine wpList_plain hgd fun K hK' => ?_
  obtain ⟨i0, hi, hz0, hz1, hz2⟩ := info_parts info_node
  obtain ⟨R, rfl, hown, hat0, hk0, hn⟩ := id h
  rw [List.length_map] at hlen
  cases hm with
  | mk M _ A c hl hc hcell hat hkids =>
    subst hl
    by_cases h0 : M = []
    · subst h0
      have hrun := run_append_zero (w := w) base 24 o.type 37 i0 5 Try.underlying24 hi v R.length (ncells R) hown A c
      have hx' : a.eval x = .slice A 0 c := hx
      unfold Oper.wp
      simp [execOp, ho, resolve, invoke, builtin, hs, hx', hrun, Result.andThen]
      refine hK' _ _ (hK v w ?_ ⟨rfl, rfl, rfl, Nat.le_refl _, fun _ _ _ => rfl⟩)
      simpa using h
    · have hM : 0 < M.length := List.length_pos_iff.2 h0
      obtain ⟨b, o', rfl, hS, hcl⟩ := hcell (by rw [ncells_length]; omega)
      have h1 : ∀ u ∈ ncells M, u.oneCell' = true := by
        intro u hu
        rw [ncells, List.mem_flatMap] at hu
        obtain ⟨r, hr, hu⟩ := hu
        obtain ⟨A1, c1, hva, _⟩ := hat r hr
        obtain ⟨A2, c2, hvk, _⟩ := (hkids r hr).shape
        simp only [ncells1, List.mem_cons, List.not_mem_nil, or_false] at hu
        rcases hu with rfl | rfl | rfl | rfl | rfl
        · rfl
        · rfl
        · rw [hva]; rfl
        · rfl
        · rw [hvk]; rfl
      have hx' : a.eval x = .slice (some ⟨b, o', none⟩) M.length c := by rw [hx, List.length_map]
      rw [List.length_map] at hlen
      obtain ⟨v', w', hrun, own', hgr, hnew⟩ := run_append_new (w := w) base 24 o.type 37 i0 _ 5 88 Try.underlying24 hi hz0 hz1 hz2 rfl (by decide) v R.length (ncells R) hown ⟨b, o', none⟩ M.length c (ncells M) (ncells_length M)
        (fun j u hj => by have h9 := hcl j u hj; rw [add_addr]; exact h9) h1 (by unfold maxLen; omega) (by omega) hbase
      unfold Oper.wp
      simp [execOp, ho, resolve, invoke, builtin, hs, hx', hrun, Result.andThen]
      have hSS : ∀ b, SubK P w v b → SubK P w' v' b := by
        intro b hb
        refine ⟨hb.1, Nat.lt_of_lt_of_le hb.2.1 hgr.size, ?_⟩
        rcases hnew with e | e
        · rw [e]; exact hb.2.2
        · intro hg
          have := e b hg
          have := hb.2.1
          omega
      have kp : Kept (SubK P w v) w w' := Kept.grown hgr fun b hb => ⟨hb.2.1, fun e => hb.2.2 e.symm⟩
      refine hK' _ _ (hK v' w' ⟨R ++ M, by simp, ?_, ?_, ?_, fun g hg hs => hs.2.2 hg⟩ hgr)
      · rw [List.length_append, ncells_append]
        exact own'
      · intro q hq
        rcases List.mem_append.1 hq with hq | hq
        · exact ((hat0 q hq).keep kp).mono hSS
        · exact ((hat q hq).keep kp).mono hSS
      · intro q hq
        rcases List.mem_append.1 hq with hq | hq
        · exact ((hk0 q hq).keep kp).mono hSS
        · exact ((hkids q hq).keep kp).mono hSS


/-- A node whose kids are others. -/
def kidsN (n : Nd) (K : List Nd) : Nd := .mk n.kind n.name n.attrs n.text K
theorem ncells_kids (K : List Nd) (vk : Value) : ∀ (R : List Rn) (k : Nat) (r : Rn), R[k]? = some r → (ncells R).set (k * 5 + 4) vk = ncells (R.set k ⟨kidsN r.n K, r.va, vk⟩)
  | [], k, r, h => by simp at h
  | a :: R, 0, r, h => by
    simp at h
    subst h
    simp [ncells, ncells1, kidsN, Nd.kind, Nd.name, Nd.text]
  | a :: R, k + 1, r, h => by
    have ih := ncells_kids K vk R k r (by simpa using h)
    have e : (k + 1) * 5 + 4 = k * 5 + 4 + 1 + 1 + 1 + 1 + 1 := by omega
    rw [e]
    show (_ :: _ :: _ :: _ :: _ :: ncells R).set _ vk = _ :: _ :: _ :: _ :: _ :: ncells (R.set k _)
    rw [List.set_cons_succ, List.set_cons_succ, List.set_cons_succ, List.set_cons_succ, List.set_cons_succ, ih]

theorem OwnK.at_ {w : World} {base n c : Nat} {P : Nat → Prop} {A : Option Addr} {l : List Nd} (h : OwnK w base P l (.slice A n c)) {k : Nat} {m : Nd} (hk : l[k]? = some m) :
    ∃ g vk, A = some ⟨g, 0, none⟩ ∧ base ≤ g ∧ g < w.heap.size ∧ w.cell? ⟨g, k * 5 + 4, none⟩ = some vk ∧ w.cell? ⟨g, k * 5 + 1, none⟩ = some (.string m.name) ∧ w.frozen? ⟨g, k * 5 + 4, none⟩ = false ∧ Tree (SubK P w (.slice A n c)) w m.kids vk := by
  obtain ⟨R, rfl, hown, hat, hkd, hn⟩ := h
  rw [List.getElem?_map] at hk
  cases hr : R[k]? with
  | none => rw [hr] at hk; cases hk
  | some r =>
    rw [hr] at hk
    injection hk with hk
    subst hk
    obtain ⟨A', c', hv, _⟩ := own_size hown
    have hnl : n = R.length := by injection hv
    subst hnl
    have hlt := (List.getElem?_eq_some_iff.1 hr).1
    obtain ⟨g, rfl, _⟩ : ∃ g, A = some ⟨g, 0, none⟩ ∧ True := by
      rcases hown.2 with ⟨_, h0⟩ | ⟨g, cap, cur, hv, _⟩
      · omega
      · injection hv with hA
        exact ⟨g, hA, trivial⟩
    have ha := ncells_at hr
    have hb := hown.lt g rfl
    refine ⟨g, r.vk, rfl, hb.1, hb.2, ?_, ?_, hown.frozenAt _, hkd r (List.mem_of_getElem? hr)⟩
    · rw [hown.cellAt (k * 5 + 4) (by omega), ha.2.2.2.2]
    · rw [hown.cellAt (k * 5 + 1) (by omega), ha.2.1]

/-- A node's kids are another list. -/
theorem OwnK.kids {w : World} {base g n c : Nat} {P : Nat → Prop} {l : List Nd} (h : OwnK w base P l (.slice (some ⟨g, 0, none⟩) n c)) {k : Nat} {m : Nd} (hk : l[k]? = some m) (K : List Nd) (v2 : Value) (hK : Tree (SubK P w (.slice (some ⟨g, 0, none⟩) n c)) w K v2) :
    OwnK (w.setCell ⟨g, k * 5 + 4, none⟩ v2) base P (l.set k (kidsN m K)) (.slice (some ⟨g, 0, none⟩) n c) ∧ w.grownBy (w.setCell ⟨g, k * 5 + 4, none⟩ v2) (some g) := by
  obtain ⟨R, rfl, hown, hat, hkd, hn⟩ := h
  rw [List.getElem?_map] at hk
  cases hr : R[k]? with
  | none => rw [hr] at hk; cases hk
  | some r =>
    rw [hr] at hk
    injection hk with hk
    subst hk
    obtain ⟨A', c', hv, _⟩ := own_size hown
    have hnl : n = R.length := by injection hv
    subst hnl
    have st := hown.stored (k * 5 + 4) v2
    have hsz : (w.setCell ⟨g, k * 5 + 4, none⟩ v2).heap.size = w.heap.size := by simp
    have kp : Kept (SubK P w (.slice (some ⟨g, 0, none⟩) R.length c)) w (w.setCell ⟨g, k * 5 + 4, none⟩ v2) := Kept.grown st.2 fun b hb => ⟨hb.2.1, fun e => hb.2.2 (by injection e with e; subst e; rfl)⟩
    have hSS : ∀ b, SubK P w (.slice (some ⟨g, 0, none⟩) R.length c) b → SubK P (w.setCell ⟨g, k * 5 + 4, none⟩ v2) (.slice (some ⟨g, 0, none⟩) R.length c) b := fun b hb => ⟨hb.1, by rw [hsz]; exact hb.2.1, hb.2.2⟩
    refine ⟨⟨R.set k ⟨kidsN r.n K, r.va, v2⟩, ?_, ?_, ?_, ?_, fun g hg hs => hs.2.2 hg⟩, st.2⟩
    · rw [List.map_set]
    · have := st.1
      rw [ncells_kids K v2 R k r hr] at this
      rw [List.length_set]
      exact this
    · intro q hq
      rcases List.mem_or_eq_of_mem_set hq with hq | hq
      · exact ((hat q hq).keep kp).mono hSS
      · subst hq
        exact ((hat r (List.mem_of_getElem? hr)).keep kp).mono hSS
    · intro q hq
      rcases List.mem_or_eq_of_mem_set hq with hq | hq
      · exact ((hkd q hq).keep kp).mono hSS
      · subst hq
        exact (hK.keep kp).mono hSS

end Go.Proofs.Ytfdgmoakobjohaa
