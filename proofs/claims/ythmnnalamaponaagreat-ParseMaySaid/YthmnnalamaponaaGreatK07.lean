/- Parts of the proof, in build order: ClsR StbR MergeR TreeK. -/
import Derived.Test.YthmnnalamaponaaGreatK06
import Derived.Deep.RegionHeld3
import Derived.StillTailTactics

/- Part ClsR. -/
namespace Go.Proofs.YthmnnalamaponaaGreat
open Go.RowKit
set_option linter.unusedVariables false

theorem lit_strs (w : World) (t : TypeId) (Ls : List (List UInt8)) : ∀ (j : Nat) (x : List UInt8), Ls[j]? = some x → (w.alloc (.cells (Ls.map (fun x => Value.string (tB x))).toArray t)).cell? ⟨w.heap.size, j, none⟩ = some (.string (tB x)) := by
  intro j x hj
  rw [cell_at (box_here w _ t)]
  simp [hj]

structure ClAt (w : World) (A : Option Addr) (Ls : List (List UInt8)) (b : List UInt8) (k : Nat) (wr : World) : Prop where
  le : k ≤ Ls.length
  cells : ∀ (j : Nat) (x : List UInt8), Ls[j]? = some x → ∃ bx, A = some ⟨bx, 0, none⟩ ∧ wr.cell? ⟨bx, j, none⟩ = some (.string (tB x))
  no : ∀ j x, j < k → Ls[j]? = some x → x ≠ b
  bel : Below w.heap.size w wr
def ClRel (w : World) (A : Option Addr) (Ls : List (List UInt8)) (b : List UInt8) (x : Value) (wr : World) : Prop := ∃ k : Nat, x = .int .i64 k ∧ ClAt w A Ls b k wr

theorem ClAt.done {w wr : World} {A : Option Addr} {Ls : List (List UInt8)} {b : List UInt8} (h : ClAt w A Ls b Ls.length wr) : Ls.any (fun x => decide (x = b)) = false := by
  rw [List.any_eq_false]
  intro x hx
  obtain ⟨j, hj, he⟩ := List.mem_iff_getElem.1 hx
  have := h.no j x hj (by rw [List.getElem?_eq_getElem hj, he])
  simpa using this

set_option maxHeartbeats 4000000 in
set_option maxRecDepth 100000 in
theorem closesR_any (o b : ByteArray) (w : World) :
    Calls Tryz.prog 55 #[.string o, .string b] w fun e w' => e = .returned (.bool (closesB o.data.toList b.data.toList)) ∧ Below w.heap.size w w' := by
  have h1 := eqs o [112]
  have h2 := eqs o [108, 105]
  have h3 := eqs o [100, 116]
  have h4 := eqs o [100, 100]
  have h5 := eqs o [111, 112, 116, 105, 111, 110]
  have h6 := eqs o [116, 100]
  have h7 := eqs o [116, 114]
  have key : ∃ (Ls : List (List UInt8)), closedBy o.data.toList = Ls := ⟨_, rfl⟩
  obtain ⟨Ls, hLs⟩ := key
  have hres : closesB o.data.toList b.data.toList = Ls.any (fun x => decide (x = b.data.toList)) := by unfold closesB; rw [hLs]
  have HRES := Lib.hid hres
  unfold closedBy at hLs
  clear hres
  by_cases c1 : o.data.toList = [112]
  case' pos =>
    rw [if_pos c1] at hLs
    rw [decide_eq_true c1] at h1
  case' neg =>
    rw [if_neg c1] at hLs
    rw [decide_eq_false c1] at h1
    by_cases c2 : o.data.toList = [108, 105]
    case' pos =>
      rw [if_pos c2] at hLs
      rw [decide_eq_true c2] at h2
    case' neg =>
      rw [if_neg c2] at hLs
      rw [decide_eq_false c2] at h2
      by_cases c3 : o.data.toList = [100, 116]
      case' pos =>
        rw [if_pos (Or.inl c3)] at hLs
        rw [decide_eq_true c3] at h3
      case' neg =>
        rw [decide_eq_false c3] at h3
        by_cases c4 : o.data.toList = [100, 100]
        case' pos =>
          rw [if_pos (Or.inr c4)] at hLs
          rw [decide_eq_true c4] at h4
        case' neg =>
          rw [if_neg (by rintro (h | h); exact c3 h; exact c4 h)] at hLs
          rw [decide_eq_false c4] at h4
          by_cases c5 : o.data.toList = [111, 112, 116, 105, 111, 110]
          case' pos =>
            rw [if_pos c5] at hLs
            rw [decide_eq_true c5] at h5
          case' neg =>
            rw [if_neg c5] at hLs
            rw [decide_eq_false c5] at h5
            by_cases c6 : o.data.toList = [116, 100]
            case' pos =>
              rw [if_pos c6] at hLs
              rw [decide_eq_true c6] at h6
            case' neg =>
              rw [if_neg c6] at hLs
              rw [decide_eq_false c6] at h6
              by_cases c7 : o.data.toList = [116, 114]
              case' pos =>
                rw [if_pos c7] at hLs
                rw [decide_eq_true c7] at h7
              case' neg =>
                rw [if_neg c7] at hLs
                rw [decide_eq_false c7] at h7
  all_goals
    have hlen := congrArg List.length hLs
    simp only [List.length_cons, List.length_nil] at hlen
    have HLEN := Lib.hid hlen.symm
    have HLS := Lib.hid hLs
    clear hlen hLs
    (try clear c1)
    (try clear c2)
    (try clear c3)
    (try clear c4)
    (try clear c5)
    (try clear c6)
    (try clear c7)
    go_enter Tryz.func55, Tryz.ntmps55
    go_wp2_with fail
    go_loopw [6] (fun x wr => ClRel w (some ⟨w.heap.size, 0, none⟩) Ls b.data.toList x wr) (fun x _ => Ls.length - (intOf x).toNat)
    case atStart =>
      refine ⟨0, rfl, ⟨by omega, fun j x hj => ⟨_, rfl, ?_⟩, fun j x h => by omega, by first | exact below_new w _ | exact Below.refl _ _⟩⟩
      rw [← HLS.out] at hj
      first | exact lit_strs w 9 _ j x hj | simp at hj
    case round =>
      obtain ⟨k, rfl, HR⟩ := hrel
      have hk := HR.le
      have hbr := HR.bel
      have HRR := Lib.hid HR
      clear HR
      by_cases hlt : k < Ls.length
      · obtain ⟨x, hx⟩ : ∃ x, Ls[k]? = some x := ⟨_, List.getElem?_eq_getElem hlt⟩
        obtain ⟨bx, hbx, q0⟩ := HRR.out.cells k x hx
        injection hbx with hbx
        injection hbx with hbx _ _
        subst hbx
        have hst := str_eq (tB x) b
        have HX := Lib.hid hx
        have hk1 : k + 1 ≤ Ls.length := hlt
        have HK1 := Lib.hid hk1
        rw [HLEN.out] at hlt hk
        clear hx hk1
        (try (exfalso; omega))
        all_goals
          by_cases hxb : x = b.data.toList
          · have B0 : ((tB x).toList == b.toList) = true := by rw [hst, decide_eq_true (by rw [hxb, tB_of])]
            have HF := Lib.hid (show closesB o.data.toList b.data.toList = true by rw [HRES.out, List.any_eq_true]; exact ⟨x, List.mem_of_getElem? HX.out, by simp [hxb]⟩)
            clear hst hxb
            go_wp2_with fail
            go_ret
            rw [HF.out]
            exact ⟨rfl, hbr⟩
          · have B0 : ((tB x).toList == b.toList) = false := by rw [hst, decide_eq_false (fun e => hxb (by rw [← e, tB_list]))]
            have HXB := Lib.hid hxb
            clear hst hxb
            go_wp2_with fail
            go_roundw
            case rel => exact ⟨k + 1, by go_num, HK1.out, HRR.out.cells, fun j y hj hy => by
              rcases Nat.lt_or_ge j k with h | h
              · exact HRR.out.no j y h hy
              · have : j = k := by omega
                subst this
                rw [HX.out] at hy
                injection hy with hy
                subst hy
                exact HXB.out, hbr⟩
            case measure => have := HLEN.out; simp [intOf]; omega
      · have hke : k = Ls.length := by omega
        have HDN := Lib.hid (show ClAt w (some ⟨w.heap.size, 0, none⟩) Ls b.data.toList Ls.length wr by rw [← hke]; exact HRR.out)
        have HF := Lib.hid (show closesB o.data.toList b.data.toList = false by rw [HRES.out]; exact HDN.out.done)
        rw [HLEN.out] at hlt hk hke
        go_wp2_with fail
        go_ret
        rw [HF.out]
        exact ⟨rfl, hbr⟩

end Go.Proofs.YthmnnalamaponaaGreat

/- Part StbR. -/
namespace Go.Proofs.YthmnnalamaponaaGreat
open Go.RowKit
set_option linter.unusedVariables false

structure HsAt (w wr : World) (l : List UInt8) (i : Nat) : Prop where
  le : i ≤ l.length
  no : ∀ j, j < i → (l.drop j).take 3 ≠ [45, 45, 62]
  bel : wr = w
def HsRel (w : World) (l : List UInt8) (x : Value) (wr : World) : Prop := ∃ i : Nat, x = .int .i64 i ∧ HsAt w wr l i

set_option maxHeartbeats 1000000 in
set_option maxRecDepth 100000 in
theorem hasR_any (s : ByteArray) (w : World) (hm : s.size ≤ 400000) :
    Calls Tryz.prog 34 #[.string s, .string ⟨#[45, 45, 62]⟩] w fun e w' => e = .returned (.bool (!noEnd s.data.toList)) ∧ w = w' := by
  obtain ⟨l, hl⟩ : ∃ l, s.data.toList = l := ⟨_, rfl⟩
  have hss : s.size = l.length := by rw [← hl]; simp
  have HSS := Lib.hid hss
  have HL := Lib.hid hl
  have HW := Lib.hid (has_noEnd l)
  rw [hl]
  clear hl hss
  go_enter Tryz.func34, Tryz.ntmps34
  go_wp2_with fail
  go_loopw [5] (fun x wr => HsRel w l x wr) (fun x _ => s.size - (intOf x).toNat)
  case atStart => exact ⟨0, rfl, ⟨by omega, fun j hj => by omega, rfl⟩⟩
  case round =>
    obtain ⟨i, rfl, HR⟩ := hrel
    obtain ⟨hi, hno, rfl⟩ := HR
    have hil : i ≤ s.size := by have := HSS.out; omega
    obtain ⟨m, hmm⟩ : ∃ m : Nat, m = i + 3 := ⟨_, rfl⟩
    have e1 : (i : Int) + 3 = (m : Int) := by omega
    have HNO := Lib.hid hno
    have HMM := Lib.hid hmm
    clear hno
    by_cases hlt : m ≤ s.size
    · have f1 : (0 : Int) ≤ (i : Int) ∧ (i : Int) ≤ (m : Int) ∧ (m : Int) ≤ (s.size : Int) := by omega
      obtain ⟨f1, f2, f3⟩ := f1
      have hmid : (s.extract i m).data.toList = (l.drop i).take 3 := by
        rw [mid_extract, HL.out]
        congr 1
        omega
      have hq := eqs (s.extract i m) [45, 45, 62]
      rw [hmid] at hq
      have hi4 : i + 1 ≤ l.length := by have := HSS.out; omega
      clear hmid hmm
      by_cases h : (l.drop i).take 3 = [45, 45, 62]
      · rw [decide_eq_true h] at hq
        have HF := Lib.hid (show (!noEnd l) = true by rw [← HW.out]; exact hasB_at (w := [45, 45, 62]) (by decide) h)
        clear h
        go_wp2_with fail
        go_ret
        rw [HF.out]
        exact ⟨rfl, rfl⟩
      · rw [decide_eq_false h] at hq
        have HF := Lib.hid h
        clear h
        go_wp2_with fail
        go_roundw
        case rel => exact ⟨i + 1, by go_num, hi4, fun j hj => by
          rcases Nat.lt_or_ge j i with h | h
          · exact HNO.out j h
          · rw [show j = i by omega]; exact HF.out, rfl⟩
        case measure => simp [intOf]; omega
    · have HF := Lib.hid (show (!noEnd l) = false by
        rw [← HW.out]
        refine hasB_no (w := [45, 45, 62]) (by decide) fun j hj => ?_
        refine HNO.out j ?_
        have := HSS.out
        have : j + 3 ≤ l.length := hj
        omega)
      have hex : ¬ (m : Int) ≤ (s.size : Int) := by omega
      clear hmm
      go_wp2_with fail
      go_ret
      rw [HF.out]
      exact ⟨rfl, rfl⟩

theorem raw_named {l : List UInt8} (h : rawB l = true) : ∀ x ∈ l, namC x = true := by
  unfold rawB at h
  rw [Bool.or_eq_true, decide_eq_true_eq, decide_eq_true_eq] at h
  rcases h with rfl | rfl <;> decide

theorem box_below5 {W W' : World} {k : Nat} {cs : Array Value} {t : TypeId} (h : W.heap[k]? = some (.cells cs t (0, 0))) (hb : Below W.heap.size W W') : W'.heap[k]? = some (.cells cs t (0, 0)) :=
  (hb.block k (Array.getElem?_eq_some_iff.1 h).1).trans h

set_option maxHeartbeats 2000000 in
set_option maxRecDepth 100000 in
theorem fitsR_any (p : ByteArray) (n : Nd) (va vk : Value) (w : World) (hva : ∃ A c, va = .slice A n.attrs.length c) (hvk : ∃ A c, vk = .slice A n.kids.length c) (hp : p.size ≤ 100000) (ht : n.text.size ≤ 100000) :
    Calls Tryz.prog 38 #[.string p, .agg #[.int .i64 n.kind, .string n.name, va, .string n.text, vk]] w fun e w' => e = .returned (.bool (fitsB p.data.toList n)) ∧ Below w.heap.size w w' := by
  obtain ⟨A1, c1, rfl⟩ := hva
  obtain ⟨A2, c2, rfl⟩ := hvk
  have hbx := box_here w #[.int .i64 n.kind, .string n.name, .slice A1 n.attrs.length c1, .string n.text, .slice A2 n.kids.length c2] 35
  have hnb := below_new w (.cells #[.int .i64 n.kind, .string n.name, .slice A1 n.attrs.length c1, .string n.text, .slice A2 n.kids.length c2] 35)
  have HBX := Lib.hid (And.intro hbx hnb)
  have HV := Lib.hid (fun W => voidR_any p W)
  have HRW := Lib.hid (fun W => rawR_any p W)
  have hfit : fitsB p.data.toList n = (if voidB p.data.toList = true then false else if rawB p.data.toList = true then decide (n.kind = 2) && rawOK p.data.toList n.text.data.toList else !decide (n.kind = 1) || !closesB p.data.toList n.name.data.toList) := rfl
  obtain ⟨v, hv⟩ : ∃ v, voidB p.data.toList = v := ⟨_, rfl⟩
  obtain ⟨r, hr⟩ : ∃ r, rawB p.data.toList = r := ⟨_, rfl⟩
  rw [hv] at hfit HV
  rw [hr] at hfit HRW
  have HR0 := Lib.hid hr
  have HFIT := Lib.hid hfit
  clear hbx hnb hfit hv hr
  cases v with
  | true =>
    have HK := Lib.hid (show fitsB p.data.toList n = false by rw [HFIT.out]; rfl)
    go_enter Tryz.func38, Tryz.ntmps38
    go_wp2_with fail
    refine (HV.out _).mono ?_
    rintro e w1 ⟨rfl, rfl⟩
    go_wp2_with fail
    refine (HRW.out _).mono ?_
    rintro e w1 ⟨rfl, rfl⟩
    go_wp2_with fail
    go_ret
    rw [HK.out]
    exact ⟨rfl, HBX.out.2⟩
  | false =>
    cases r with
    | true =>
      by_cases h2 : n.kind = 2
      · have B2 : (n.kind == 2) = true := by simp [h2]
        have HK := Lib.hid (show fitsB p.data.toList n = rawOK p.data.toList n.text.data.toList by rw [HFIT.out, if_neg (by decide), if_pos rfl, h2]; simp)
        clear h2
        obtain ⟨T, hT⟩ : ∃ T : ByteArray, ((n.text ++ (⟨#[60, 47]⟩ : ByteArray)) ++ p) ++ (⟨#[62]⟩ : ByteArray) = T := ⟨_, rfl⟩
        have hTl : T.data.toList = n.text.data.toList ++ (60 :: 47 :: (p.data.toList ++ [62])) := by rw [← hT]; simp
        have hTz : T.size = n.text.size + p.size + 3 := by
          have h1 := congrArg List.length hTl
          have h2 : T.data.toList.length = T.size := by simp
          have h3 : n.text.data.toList.length = n.text.size := by simp
          have h4 : p.data.toList.length = p.size := by simp
          simp only [List.length_append, List.length_cons, List.length_nil] at h1
          omega
        have hen := ends_raw (nm := p.data.toList) (t := n.text.data.toList) (raw_named HR0.out)
        rw [← hTl] at hen
        have htz : n.text.data.toList.length = n.text.size := by simp
        rw [htz] at hen
        have HEN := Lib.hid hen
        have HED := Lib.hid (fun W => endsR_any T p W (by omega) (by omega))
        obtain ⟨E, hE⟩ : ∃ E, endsI p.data.toList T.data.toList = E := ⟨_, rfl⟩
        rw [hE] at HED HEN
        rw [← hT] at HED
        have hEq : (E == (n.text.size : Int)) = rawOK p.data.toList n.text.data.toList := by
          have := HEN.out
          cases hro : rawOK p.data.toList n.text.data.toList with
          | true => rw [beq_iff_eq]; exact this.2 hro
          | false =>
            rw [beq_eq_false_iff_ne]
            intro e
            have := this.1 e
            rw [hro] at this
            cases this
        obtain ⟨R, hR⟩ : ∃ R, rawOK p.data.toList n.text.data.toList = R := ⟨_, rfl⟩
        rw [hR] at hEq HK
        have HBE := Lib.hid hEq
        have SK := Lib.hid (fun (W : World) (h : Below (w.alloc (.cells #[.int .i64 n.kind, .string n.name, .slice A1 n.attrs.length c1, .string n.text, .slice A2 n.kids.length c2] 35)).heap.size (w.alloc (.cells #[.int .i64 n.kind, .string n.name, .slice A1 n.attrs.length c1, .string n.text, .slice A2 n.kids.length c2] 35)) W) =>
          (⟨(cell_at (box_below5 HBX.out.1 h) 0), (cell_at (box_below5 HBX.out.1 h) 3)⟩ : W.cell? ⟨w.heap.size, 0, none⟩ = some (.int .i64 n.kind) ∧ W.cell? ⟨w.heap.size, 3, none⟩ = some (.string n.text)))
        have z1 : ¬ (9223372036854775807 < n.text.size + (⟨#[60, 47]⟩ : ByteArray).size) := by show ¬ (_ < n.text.size + 2); omega
        have z2 : ¬ (9223372036854775807 < (n.text ++ (⟨#[60, 47]⟩ : ByteArray)).size + p.size) := by rw [ByteArray.size_append]; show ¬ (_ < n.text.size + 2 + p.size); omega
        have z3 : ¬ (9223372036854775807 < ((n.text ++ (⟨#[60, 47]⟩ : ByteArray)) ++ p).size + (⟨#[62]⟩ : ByteArray).size) := by rw [ByteArray.size_append, ByteArray.size_append]; show ¬ (_ < n.text.size + 2 + p.size + 1); omega
        have y1 : ¬ (9223372036854775807 < n.text.size + 2) := by omega
        have y2 : ¬ (9223372036854775807 < n.text.size + 2 + p.size) := by omega
        have y3 : ¬ (9223372036854775807 < n.text.size + 2 + p.size + 1) := by omega
        clear hT hTl hTz hen htz hE hEq hR
        go_enter Tryz.func38, Tryz.ntmps38
        go_wp2_with fail
        refine (HV.out _).mono ?_
        rintro e w1 ⟨rfl, rfl⟩
        go_wp2_with fail
        refine (HRW.out _).mono ?_
        rintro e w1 ⟨rfl, rfl⟩
        go_wp2_with fail
        go_region_held3 (fun W => W.cell? ⟨w.heap.size, 0, none⟩ = some (.int .i64 n.kind) ∧ W.cell? ⟨w.heap.size, 3, none⟩ = some (.string n.text))
          (first
            | exact SK.out _ (Below.refl _ _)
            | exact SK.out _ (Below.refl _ _).drew
            | exact SK.out _ ((Below.refl _ _).drew.trans hb3)
            | exact SK.out _ hb3)
          (first
            | (go_at_call 54; refine Calls.mono (HED.out _) ?_; rintro e w3 ⟨rfl, hb3⟩))
        go_wp2_with fail
        go_ret
        refine ⟨?_, below_after HBX.out.2.drew hb3⟩
        rw [HK.out, ← HBE.out]
        rfl
      · have B2 : (n.kind == 2) = false := by simp [h2]
        have HK := Lib.hid (show fitsB p.data.toList n = false by rw [HFIT.out, if_neg (by decide), if_pos rfl, decide_eq_false h2]; rfl)
        have c0 := cell_at HBX.out.1 0
        have hb0 := HBX.out.2
        clear h2
        go_enter Tryz.func38, Tryz.ntmps38
        go_wp2_with fail
        refine (HV.out _).mono ?_
        rintro e w1 ⟨rfl, rfl⟩
        go_wp2_with fail
        refine (HRW.out _).mono ?_
        rintro e w1 ⟨rfl, rfl⟩
        go_wp2_with fail
        go_quiet (fail)
        go_wp2_with fail
        go_ret
        rw [HK.out]
        exact ⟨rfl, dN_below hb0 _⟩
    | false =>
      obtain ⟨q, hq⟩ : ∃ q, closesB p.data.toList n.name.data.toList = q := ⟨_, rfl⟩
      have HC := Lib.hid (fun W => closesR_any p n.name W)
      rw [hq] at HC
      by_cases h1 : n.kind = 1
      · have B1 : (n.kind != 1) = false := by simp [h1]
        have HK := Lib.hid (show fitsB p.data.toList n = !q by rw [HFIT.out, if_neg (by decide), if_neg (by decide), h1, hq]; simp)
        clear h1 hq
        go_enter Tryz.func38, Tryz.ntmps38
        go_wp2_with fail
        refine (HV.out _).mono ?_
        rintro e w1 ⟨rfl, rfl⟩
        go_wp2_with fail
        refine (HRW.out _).mono ?_
        rintro e w1 ⟨rfl, rfl⟩
        go_wp2_with fail
        refine (HC.out _).mono ?_
        rintro e w3 ⟨rfl, hb3⟩
        have hbx := box_below5 HBX.out.1 hb3
        have d0 := cell_at hbx 0
        have hb := below_after HBX.out.2 hb3
        clear hb3 hbx
        go_wp2_with fail
        go_ret
        rw [HK.out]
        exact ⟨rfl, hb⟩
      · have B1 : (n.kind != 1) = true := by simp [h1]
        have HK := Lib.hid (show fitsB p.data.toList n = true by rw [HFIT.out, if_neg (by decide), if_neg (by decide), decide_eq_false h1]; rfl)
        clear h1 hq
        go_enter Tryz.func38, Tryz.ntmps38
        go_wp2_with fail
        refine (HV.out _).mono ?_
        rintro e w1 ⟨rfl, rfl⟩
        go_wp2_with fail
        refine (HRW.out _).mono ?_
        rintro e w1 ⟨rfl, rfl⟩
        go_wp2_with fail
        refine (HC.out _).mono ?_
        rintro e w3 ⟨rfl, hb3⟩
        have hbx := box_below5 HBX.out.1 hb3
        have d0 := cell_at hbx 0
        have hb := below_after HBX.out.2 hb3
        clear hb3 hbx
        go_wp2_with fail
        go_ret
        rw [HK.out]
        exact ⟨rfl, hb⟩

structure AlAt (w wr : World) (l : List Nd) (i : Nat) : Prop where
  le : i ≤ l.length
  ok : stL (l.take i) = true
  bel : Below w.heap.size w wr
def AlRel (w : World) (l : List Nd) (x : Value) (wr : World) : Prop := ∃ i : Nat, x = .int .i64 i ∧ AlAt w wr l i
structure KdAt (w wr : World) (p : List UInt8) (l : List Nd) (i : Nat) : Prop where
  le : i ≤ l.length
  ok : (l.take i).all (fitsB p) = true
  bel : Below w.heap.size w wr
def KdRel (w : World) (p : List UInt8) (l : List Nd) (x : Value) (wr : World) : Prop := ∃ i : Nat, x = .int .i64 i ∧ KdAt w wr p l i

theorem stL_not {l : List Nd} {i : Nat} {n : Nd} (h : l[i]? = some n) (hn : stN n = false) : stL l = false := by
  rw [stL_all, List.all_eq_false]
  exact ⟨n, List.mem_of_getElem? h, by rw [hn]; decide⟩
theorem stL_snoc {l : List Nd} {i : Nat} {n : Nd} (h : l[i]? = some n) (hl : stL (l.take i) = true) (hn : stN n = true) : stL (l.take (i + 1)) = true := by
  rw [List.take_add_one, h, stL_append, hl]
  show (true && stL [n]) = true
  rw [stL_cons, stL_nil, hn]
  rfl

set_option maxHeartbeats 4000000 in
set_option maxRecDepth 100000 in
theorem allR_any (l : List Nd) : ∀ (S : Nat → Prop) (v : Value) (w : World), Tree S w l v → (∀ b, S b → b < w.heap.size) → szL l ≤ 100000 →
    Calls Tryz.prog 22 #[v] w fun e w' => e = .returned (.bool (stL l)) ∧ Below w.heap.size w w' := by
  induction l using nd_ind with
  | h l ih =>
  intro S v w hT hS hsz
  have hlen := szL_len l
  obtain ⟨A, c, rfl, hc⟩ := hT.shape
  have HT := Lib.hid hT
  have HIH := Lib.hid ih
  clear hT ih
  go_enter Tryz.func22, Tryz.ntmps22
  go_wp2_with fail
  go_loopw [3, 4, 5, 6] (fun x _ _ _ wr => AlRel w l x wr) (fun x _ _ _ _ => l.length - (intOf x).toNat)
  case atStart => exact ⟨0, rfl, ⟨by omega, by rw [List.take_zero, stL_nil], Below.refl _ _⟩⟩
  case round =>
    obtain ⟨i, rfl, HR⟩ := hrel
    obtain ⟨hi, hok, hbr⟩ := HR
    have HOK := Lib.hid hok
    clear hok
    by_cases hlt : i < l.length
    · obtain ⟨b, o, c', hv, _, hSb, hcell⟩ := HT.out.open_ (by omega)
      injection hv with hA _ hcc
      subst hA
      subst hcc
      obtain ⟨m, hm⟩ : ∃ m, l[i]? = some m := ⟨_, List.getElem?_eq_getElem hlt⟩
      obtain ⟨ma, mk, hmt⟩ := hcell i m hm
      have hb := hS b hSb
      obtain ⟨A3, c3, rfl, _, _⟩ := id hmt.at_
      obtain ⟨A4, c4, rfl, _⟩ := hmt.kids.shape
      have q0 : wr.cell? ⟨b, o + i * 5, none⟩ = some (.int .i64 m.kind) := (hbr.cell (p := ⟨b, o + i * 5, none⟩) hb).trans hmt.c0
      have q1 : wr.cell? ⟨b, o + i * 5 + 1, none⟩ = some (.string m.name) := (hbr.cell (p := ⟨b, o + i * 5 + 1, none⟩) hb).trans hmt.c1
      have q3 : wr.cell? ⟨b, o + i * 5 + 3, none⟩ = some (.string m.text) := (hbr.cell (p := ⟨b, o + i * 5 + 3, none⟩) hb).trans hmt.c3
      have q4 : wr.cell? ⟨b, o + i * 5 + 4, none⟩ = some (.slice A4 m.kids.length c4) := (hbr.cell (p := ⟨b, o + i * 5 + 4, none⟩) hb).trans hmt.c4
      have hzm := szL_at hm
      have hzk := szL_kids hm
      rw [szN_eq] at hzm
      have hkl := szL_len m.kids
      have i1 : (i : Int) < (l.length : Int) := by omega
      have i2 : (0 : Int) ≤ (i : Int) := by omega
      have hi4 : i + 1 ≤ l.length := hlt
      have HM := Lib.hid hm
      have HSTN := Lib.hid (stN_eq m)
      have HMT := Lib.hid hmt
      have HHS := Lib.hid (fun W => hasR_any m.text W (by omega))
      have HKA := Lib.hid (fun (W : World) (hW : Below w.heap.size w W) => HIH.out i m hm S (.slice A4 m.kids.length c4) W (hmt.kids.keep (Kept.belowB hW hS)) (fun b h => Nat.lt_of_lt_of_le (hS b h) hW.size) (by omega))
      obtain ⟨ne, hne⟩ : ∃ q, noEnd m.text.data.toList = q := ⟨_, rfl⟩
      obtain ⟨sk, hsk⟩ : ∃ q, stL m.kids = q := ⟨_, rfl⟩
      rw [hne] at HSTN HHS
      rw [hsk] at HSTN HKA
      clear hcell hm hmt hne hsk
      have hways : (m.kind = 3 ∧ ne = false) ∨ (m.kind = 3 ∧ ne = true) ∨ (m.kind ≠ 3) := by
        by_cases h : m.kind = 3
        · cases ne
          · exact .inl ⟨h, rfl⟩
          · exact .inr (.inl ⟨h, rfl⟩)
        · exact .inr (.inr h)
      rcases hways with ⟨h3, rfl⟩ | hgo
      · have B3 : (m.kind == 3) = true := by simp [h3]
        have HF := Lib.hid (stL_not HM.out (show stN m = false by rw [HSTN.out, h3]; rfl))
        clear h3
        go_wp2_with fail
        refine (HHS.out _).mono ?_
        rintro e w3 ⟨rfl, rfl⟩
        go_wp2_with fail
        go_ret
        rw [HF.out]
        exact ⟨rfl, hbr⟩
      · have HG := Lib.hid (show (!decide (m.kind = 3) || ne) = true by rcases hgo with ⟨h, rfl⟩ | h; rw [h]; rfl; simp [h])
        rcases hgo with ⟨h3, rfl⟩ | h3
        case' inl => have B3 : (m.kind == 3) = true := by simp [h3]
        case' inr => have B3 : (m.kind == 3) = false := by simp [h3]
        all_goals
          clear h3
          go_wp2_with (go_at_call 34; refine (HHS.out _).mono ?_; rintro e w3 ⟨rfl, rfl⟩)
          obtain ⟨wo, rfl⟩ : ∃ wo : World, wo = wr := ⟨_, rfl⟩
          go_loopw [4, 5] (fun x _ wx => KdRel w m.name.data.toList m.kids x wx) (fun x _ _ => m.kids.length - (intOf x).toNat)
          case atStart => exact ⟨0, rfl, ⟨by omega, by simp, hbr⟩⟩
          case round =>
            obtain ⟨j, rfl, HR2⟩ := hrel
            obtain ⟨hj, hok2, hbx⟩ := HR2
            have HOK2 := Lib.hid hok2
            clear hok2 q0 q1 q3 q4
            have s1 : wr.cell? ⟨b, o + i * 5 + 1, none⟩ = some (.string m.name) := (hbx.cell (p := ⟨b, o + i * 5 + 1, none⟩) hb).trans HMT.out.c1
            have s4 : wr.cell? ⟨b, o + i * 5 + 4, none⟩ = some (.slice A4 m.kids.length c4) := (hbx.cell (p := ⟨b, o + i * 5 + 4, none⟩) hb).trans HMT.out.c4
            by_cases hlj : j < m.kids.length
            · obtain ⟨d, u, c'', hv2, _, hSd, hcell2⟩ := HMT.out.kids.open_ (by omega)
              injection hv2 with hA2 _ hcc2
              subst hA2
              subst hcc2
              obtain ⟨x, hx⟩ : ∃ x, m.kids[j]? = some x := ⟨_, List.getElem?_eq_getElem hlj⟩
              obtain ⟨xa, xk, hxt⟩ := hcell2 j x hx
              have hd := hS d hSd
              obtain ⟨A5, c5, rfl, _, _⟩ := id hxt.at_
              obtain ⟨A6, c6, rfl, _⟩ := hxt.kids.shape
              have p0 : wr.cell? ⟨d, u + j * 5, none⟩ = some (.int .i64 x.kind) := (hbx.cell (p := ⟨d, u + j * 5, none⟩) hd).trans hxt.c0
              have p1 : wr.cell? ⟨d, u + j * 5 + 1, none⟩ = some (.string x.name) := (hbx.cell (p := ⟨d, u + j * 5 + 1, none⟩) hd).trans hxt.c1
              have p2 : wr.cell? ⟨d, u + j * 5 + 2, none⟩ = some (.slice A5 x.attrs.length c5) := (hbx.cell (p := ⟨d, u + j * 5 + 2, none⟩) hd).trans hxt.c2
              have p3 : wr.cell? ⟨d, u + j * 5 + 3, none⟩ = some (.string x.text) := (hbx.cell (p := ⟨d, u + j * 5 + 3, none⟩) hd).trans hxt.c3
              have p4 : wr.cell? ⟨d, u + j * 5 + 4, none⟩ = some (.slice A6 x.kids.length c6) := (hbx.cell (p := ⟨d, u + j * 5 + 4, none⟩) hd).trans hxt.c4
              have hzx := szL_at hx
              rw [szN_eq] at hzx
              have i3 : (j : Int) < (m.kids.length : Int) := by omega
              have i4 : (0 : Int) ≤ (j : Int) := by omega
              have hj4 : j + 1 ≤ m.kids.length := hlj
              have HX := Lib.hid hx
              have HFT := Lib.hid (fun W => fitsR_any m.name x (.slice A5 x.attrs.length c5) (.slice A6 x.kids.length c6) W ⟨_, _, rfl⟩ ⟨_, _, rfl⟩ (by omega) (by omega))
              obtain ⟨ft, hft⟩ : ∃ q, fitsB m.name.data.toList x = q := ⟨_, rfl⟩
              rw [hft] at HFT
              have HFQ := Lib.hid hft
              have SK := Lib.hid (fun (W : World) (h : Below wr.heap.size wr W) => (⟨(h.cell (p := ⟨b, o + i * 5 + 1, none⟩) (Nat.lt_of_lt_of_le hb hbx.size)).trans s1, (h.cell (p := ⟨b, o + i * 5 + 4, none⟩) (Nat.lt_of_lt_of_le hb hbx.size)).trans s4,
                (h.cell (p := ⟨d, u + j * 5, none⟩) (Nat.lt_of_lt_of_le hd hbx.size)).trans p0, (h.cell (p := ⟨d, u + j * 5 + 1, none⟩) (Nat.lt_of_lt_of_le hd hbx.size)).trans p1, (h.cell (p := ⟨d, u + j * 5 + 2, none⟩) (Nat.lt_of_lt_of_le hd hbx.size)).trans p2,
                (h.cell (p := ⟨d, u + j * 5 + 3, none⟩) (Nat.lt_of_lt_of_le hd hbx.size)).trans p3, (h.cell (p := ⟨d, u + j * 5 + 4, none⟩) (Nat.lt_of_lt_of_le hd hbx.size)).trans p4⟩ :
                W.cell? ⟨b, o + i * 5 + 1, none⟩ = some (.string m.name) ∧ W.cell? ⟨b, o + i * 5 + 4, none⟩ = some (.slice (some ⟨d, u, none⟩) m.kids.length c4) ∧ W.cell? ⟨d, u + j * 5, none⟩ = some (.int .i64 x.kind) ∧ W.cell? ⟨d, u + j * 5 + 1, none⟩ = some (.string x.name) ∧
                W.cell? ⟨d, u + j * 5 + 2, none⟩ = some (.slice A5 x.attrs.length c5) ∧ W.cell? ⟨d, u + j * 5 + 3, none⟩ = some (.string x.text) ∧ W.cell? ⟨d, u + j * 5 + 4, none⟩ = some (.slice A6 x.kids.length c6)))
              clear hcell2 hx hxt hft
              go_wp2_with fail
              go_region_held3 (fun W => W.cell? ⟨b, o + i * 5 + 1, none⟩ = some (.string m.name) ∧ W.cell? ⟨b, o + i * 5 + 4, none⟩ = some (.slice (some ⟨d, u, none⟩) m.kids.length c4) ∧ W.cell? ⟨d, u + j * 5, none⟩ = some (.int .i64 x.kind) ∧ W.cell? ⟨d, u + j * 5 + 1, none⟩ = some (.string x.name) ∧
                W.cell? ⟨d, u + j * 5 + 2, none⟩ = some (.slice A5 x.attrs.length c5) ∧ W.cell? ⟨d, u + j * 5 + 3, none⟩ = some (.string x.text) ∧ W.cell? ⟨d, u + j * 5 + 4, none⟩ = some (.slice A6 x.kids.length c6))
                (first
                  | exact SK.out _ (Below.refl _ _)
                  | exact SK.out _ (Below.refl _ _).drew
                  | exact SK.out _ (below_after (Below.refl _ _).drew hb3)
                  | exact SK.out _ hb3)
                (first
                  | (go_at_call 38; refine Calls.mono (HFT.out _) ?_; rintro e w3 ⟨rfl, hb3⟩))
              have hbx3 := below_after hbx.drew hb3
              cases ft with
              | true =>
                go_wp2_with fail
                go_roundw
                case rel => exact ⟨j + 1, by go_num, hj4, by rw [List.take_add_one, HX.out, List.all_append, HOK2.out]; simp [HFQ.out], hbx3⟩
                case measure => simp [intOf]; omega
              | false =>
                have HF := Lib.hid (stL_not HM.out (show stN m = false by
                  rw [HSTN.out]
                  have : m.kids.all (fitsB m.name.data.toList) = false := by rw [List.all_eq_false]; exact ⟨x, List.mem_of_getElem? HX.out, by rw [HFQ.out]; decide⟩
                  rw [this]
                  simp))
                go_wp2_with fail
                go_ret
                rw [HF.out]
                exact ⟨rfl, hbx3⟩
            · have hje : j = m.kids.length := by omega
              have HKK := Lib.hid (show m.kids.all (fitsB m.name.data.toList) = true by have := HOK2.out; rwa [hje, List.take_length] at this)
              have HKC := Lib.hid (HKA.out wr hbx)
              go_wp2_with fail
              refine HKC.out.mono ?_
              rintro e w3 ⟨rfl, hb3⟩
              have hbx3 := below_after hbx hb3
              cases sk with
              | true =>
                have HNT := Lib.hid (show stN m = true by rw [HSTN.out, HG.out, HKK.out]; rfl)
                go_wp2_with fail
                go_roundw
                case rel => exact ⟨i + 1, by go_num, hi4, stL_snoc HM.out HOK.out HNT.out, hbx3⟩
                case measure => simp [intOf]; omega
              | false =>
                have HF := Lib.hid (stL_not HM.out (show stN m = false by rw [HSTN.out]; simp))
                go_wp2_with fail
                go_ret
                rw [HF.out]
                exact ⟨rfl, hbx3⟩
    · have hke : i = l.length := by omega
      have HF := Lib.hid (show stL l = true by have := HOK.out; rwa [hke, List.take_length] at this)
      go_wp2_with fail
      go_ret
      rw [HF.out]
      exact ⟨rfl, hbr⟩

end Go.Proofs.YthmnnalamaponaaGreat

/- Part MergeR. -/
namespace Go.Proofs.YthmnnalamaponaaGreat
open Go.RowKit
set_option linter.unusedVariables false

theorem szL_take (l : List Nd) (k : Nat) : szL (l.take k) ≤ szL l := by
  have : szL l = szL (l.take k) + szL (l.drop k) := by rw [← szL_append, List.take_append_drop]
  omega
theorem merge_snoc (l : List Nd) (n : Nd) : mergeB (l ++ [n]) = mstep (mergeB l) n := by simp [mergeB]

theorem isEmpty_iff' (s : ByteArray) : (s.toList.isEmpty = true) ↔ s.data.toList = [] := by rw [Lib.toList_data]; simp

structure MergeAt (lo : Nat) (w wr : World) (l : List Nd) (k : Nat) (v : Value) (out : List Nd) : Prop where
  le : k ≤ l.length
  is : mergeB (l.take k) = out
  own : OwnC wr w.heap.size lo out v
  bel : Below w.heap.size w wr

def MergeRel (lo : Nat) (w : World) (l : List Nd) (x y : Value) (wr : World) : Prop := ∃ (k : Nat) (out : List Nd), y = .int .i64 k ∧ MergeAt lo w wr l k x out

set_option maxHeartbeats 2000000 in
set_option maxRecDepth 100000 in
theorem mergeR_any (lo : Nat) (l : List Nd) (v : Value) (w : World) (hT : Tree (fun b => lo ≤ b ∧ b < w.heap.size) w l v) (hsz : szL l ≤ 1000000) :
    Calls Tryz.prog 32 #[v] w fun e w' => ∃ v', e = .returned v' ∧ OwnC w' w.heap.size lo (mergeB l) v' ∧ Below w.heap.size w w' := by
  have hlen := szL_len l
  obtain ⟨A, c, rfl, hc⟩ := hT.shape
  have HT := Lib.hid hT
  clear hT
  go_enter Tryz.func32, Tryz.ntmps32
  go_wp2_with fail
  go_loopw [3, 4] (fun x y wr => MergeRel lo w l x y wr) (fun _ y _ => l.length - (intOf y).toNat)
  case atStart => exact ⟨0, [], rfl, by omega, rfl, OwnC.nil _ _ _, Below.refl _ _⟩
  case round =>
    obtain ⟨k, out, rfl, HR⟩ := hrel
    have hk := HR.le
    have HO := Lib.hid HR.is
    have hown := HR.own
    have hbel := HR.bel
    clear HR
    have hos : szL out ≤ 1000000 := by
      have h1 := merge_sz (l.take k)
      have h2 := szL_take l k
      rw [HO.out] at h1
      omega
    have hol := szL_len out
    by_cases hlt : k < l.length
    · obtain ⟨b, o, c', hv, _, hS, hcell⟩ := HT.out.open_ (by omega)
      injection hv with hA _ hcc
      subst hA
      subst hcc
      obtain ⟨n, hn⟩ : ∃ n, l[k]? = some n := ⟨_, List.getElem?_eq_getElem hlt⟩
      obtain ⟨va, vk, hat⟩ := hcell k n hn
      obtain ⟨A', c'', rfl, hc''⟩ := OwnT.shape hown
      have q0 : wr.cell? ⟨b, o + k * 5, none⟩ = some (.int .i64 n.kind) := (hbel.cell (p := ⟨b, o + k * 5, none⟩) hS.2).trans hat.c0
      have q3 : wr.cell? ⟨b, o + k * 5 + 3, none⟩ = some (.string n.text) := (hbel.cell (p := ⟨b, o + k * 5 + 3, none⟩) hS.2).trans hat.c3
      have q1 : wr.cell? ⟨b, o + k * 5 + 1, none⟩ = some (.string n.name) := (hbel.cell (p := ⟨b, o + k * 5 + 1, none⟩) hS.2).trans hat.c1
      have q2 : wr.cell? ⟨b, o + k * 5 + 2, none⟩ = some va := (hbel.cell (p := ⟨b, o + k * 5 + 2, none⟩) hS.2).trans hat.c2
      have q4 : wr.cell? ⟨b, o + k * 5 + 4, none⟩ = some vk := (hbel.cell (p := ⟨b, o + k * 5 + 4, none⟩) hS.2).trans hat.c4
      have HSN := Lib.hid (show mergeB (l.take (k + 1)) = mstep out n by rw [List.take_add_one, hn, ← HO.out]; exact merge_snoc _ _)
      have hkeep := fun ob => input_kept hbel hown ob
      have HKP := Lib.hid hkeep
      have HAT := Lib.hid hat
      have HN := Lib.hid hn
      have hown2 := fun ob => OwnC.later hown (below_new wr ob)
      have HOWN := Lib.hid hown2
      have hwr : w.heap.size ≤ wr.heap.size + 1 := by have := hbel.size; omega
      have hns := szL_at hn
      rw [szN_eq] at hns
      clear hcell hn hat hkeep hown2
      by_cases h2 : n.kind = 2
      · have B2 : (n.kind == 2) = true := by simp [h2]
        obtain ⟨q, hq⟩ : ∃ q, n.text.toList.isEmpty = q := ⟨_, rfl⟩
        cases q with
        | true =>
          have HF := Lib.hid (show mergeB (l.take (k + 1)) = out by rw [HSN.out]; unfold mstep; rw [if_pos ⟨h2, (isEmpty_iff' _).1 hq⟩])
          clear h2
          have HOW := Lib.hid hown
          clear hown
          go_wp2_with fail
          go_roundw
          case rel => exact ⟨k + 1, out, by go_num, by omega, HF.out, HOW.out, hbel⟩
          case measure => simp [intOf]; omega
        | false =>
          have hne : ¬ n.text.data.toList = [] := fun e => by rw [(isEmpty_iff' _).2 e] at hq; cases hq
          rcases Nat.eq_zero_or_pos out.length with h0 | h0
          · have he : out = [] := List.eq_nil_of_length_eq_zero h0
            subst he
            have HF := Lib.hid (show mergeB (l.take (k + 1)) = [] ++ [n] by rw [HSN.out]; unfold mstep; rw [if_neg (fun h => hne h.2), if_neg (fun h => by simp [lastText] at h)])
            have HOW := Lib.hid hown
            clear h2 hne hown h0
            go_wp2_with (at_builtin; refine wpList_append_node rfl _ _ rfl w.heap.size lo [] _ rfl (HOWN.out _) ⟨n, va, vk⟩ ⟨wr.heap.size, 0, none⟩ 1 rfl (new_five _ _ _) ((HAT.out.at_.keep (HKP.out _).1).mono (HKP.out _).2) ((HAT.out.kids.keep (HKP.out _).1).mono (HKP.out _).2) (by omega) (by simpa using hwr) ?_; intro v' w2 hown' hgrow)
            have hB2 : Below w.heap.size w w2 := (hbel.alloc hbel.size _).grown hgrow (by simpa using hwr) (fun g hg => (OwnT.lt HOW.out g hg).1)
            clear hgrow
            go_roundw
            case rel => exact ⟨k + 1, [] ++ [n], by go_num, by omega, HF.out, hown', hB2⟩
            case measure => simp [intOf]; omega
          · obtain ⟨m, x, hmx⟩ := snoc_of h0
            subst hmx
            obtain ⟨g, rfl, hlenx, hbg, g0, g3, gf⟩ := hown.last
            have hlm : (m ++ [x]).length = m.length + 1 := by simp
            rw [hlm] at hol
            by_cases hx2 : x.kind = 2
            · have C2 : (x.kind == 2) = true := by simp [hx2]
              have HF := Lib.hid (show mergeB (l.take (k + 1)) = m ++ [.mk x.kind x.name x.attrs (x.text ++ n.text) x.kids] by rw [HSN.out]; unfold mstep; rw [if_neg (fun h => hne h.2), if_pos ⟨h2, by rw [lastText_snoc]; exact C2⟩, mglue_snoc])
              have htx := OwnC.text hown (x.text ++ n.text)
              rw [hlm] at htx
              have HTX := Lib.hid htx
              have hxs : x.text.size ≤ 1000000 := by
                have h1 := szL_at (l := m ++ [x]) (j := m.length) (n := x) (by simp)
                rw [szN_eq] at h1
                omega
              have hns2 : n.text.size ≤ 1000000 := by omega
              have i1 : (m.length : Int) < ((m.length + 1 : Nat) : Int) := by omega
              have i2 : (0 : Int) ≤ (m.length : Int) := by omega
              have HOL := Lib.hid hlenx
              clear h2 hx2 hne hown h0 hlm htx hlenx
              rw [show (m ++ [x]).length = m.length + 1 by simp]
              go_wp2_with fail
              have i3 : (m.length : Int) < (m.length : Int) + 1 := by omega
              have i4 : (k : Int) < (l.length : Int) := by omega
              have i5 : ¬ (9223372036854775807 < x.text.size + n.text.size) := by omega
              go_still_tail 15, (by kernel_rfl)
              change wpList _ _ _ _ _ wr.drew
              clear i5
              go_wp2_with fail
              have hB2 : Below w.heap.size w (wr.setCell ⟨g, m.length * 5 + 3, none⟩ (.string (x.text ++ n.text))).drew := (hbel.setCell hbg _).drew
              go_roundw
              case rel => exact ⟨k + 1, _, by go_num, by omega, HF.out, HTX.out.1.drew, hB2⟩
              case measure => simp [intOf]; omega
            · have C2 : (x.kind == 2) = false := by simp [hx2]
              have HF := Lib.hid (show mergeB (l.take (k + 1)) = (m ++ [x]) ++ [n] by rw [HSN.out]; unfold mstep; rw [if_neg (fun h => hne h.2), if_neg (fun h => by have := h.2; rw [lastText_snoc, C2] at this; cases this)])
              have i1 : (m.length : Int) < ((m.length + 1 : Nat) : Int) := by omega
              have HOW := Lib.hid hown
              clear h2 hx2 hne hown h0 hlenx hlm
              rw [show (m ++ [x]).length = m.length + 1 by simp] at HOWN HOW ⊢
              go_wp2_with (at_builtin; refine wpList_append_node rfl _ _ rfl w.heap.size lo (m ++ [x]) _ rfl (HOWN.out _) ⟨n, va, vk⟩ ⟨wr.heap.size, 0, none⟩ 1 rfl (new_five _ _ _) ((HAT.out.at_.keep (HKP.out _).1).mono (HKP.out _).2) ((HAT.out.kids.keep (HKP.out _).1).mono (HKP.out _).2) (by rw [List.length_append]; simp; omega) (by simpa using hwr) ?_; intro v' w2 hown' hgrow)
              have hB2 : Below w.heap.size w w2 := (hbel.alloc hbel.size _).grown hgrow (by simpa using hwr) (fun g hg => (OwnT.lt HOW.out g hg).1)
              clear hgrow
              go_roundw
              case rel => exact ⟨k + 1, (m ++ [x]) ++ [n], by go_num, by omega, HF.out, hown', hB2⟩
              case measure => simp [intOf]; omega
      · have B2 : (n.kind == 2) = false := by simp [h2]
        have HF := Lib.hid (show mergeB (l.take (k + 1)) = out ++ [n] by rw [HSN.out]; unfold mstep; rw [if_neg (fun h => h2 h.1), if_neg (fun h => h2 h.1)])
        have HOW := Lib.hid hown
        clear h2 hown
        go_wp2_with (at_builtin; refine wpList_append_node rfl _ _ rfl w.heap.size lo out _ rfl (HOWN.out _) ⟨n, va, vk⟩ ⟨wr.heap.size, 0, none⟩ 1 rfl (new_five _ _ _) ((HAT.out.at_.keep (HKP.out _).1).mono (HKP.out _).2) ((HAT.out.kids.keep (HKP.out _).1).mono (HKP.out _).2) (by omega) (by simpa using hwr) ?_; intro v' w2 hown' hgrow)
        have hB2 : Below w.heap.size w w2 := (hbel.alloc hbel.size _).grown hgrow (by simpa using hwr) (fun g hg => (OwnT.lt HOW.out g hg).1)
        clear hgrow
        go_roundw
        case rel => exact ⟨k + 1, out ++ [n], by go_num, by omega, HF.out, hown', hB2⟩
        case measure => simp [intOf]; omega
    · have hm : mergeB l = out := by
        have := HO.out
        rwa [List.take_of_length_le (by omega)] at this
      have HM := Lib.hid hm
      have HOW := Lib.hid hown
      clear hm hown
      go_wp2_with fail
      go_ret
      rw [HM.out]
      exact ⟨_, rfl, HOW.out, hbel⟩

end Go.Proofs.YthmnnalamaponaaGreat

/- Part TreeK. -/
namespace Go.Proofs.YthmnnalamaponaaGreat
open Go.RowKit
set_option linter.unusedVariables false

/-- The blocks from P on that there are, but v's own. -/
def SubK (P : Nat → Prop) (w : World) (v : Value) (b : Nat) : Prop := P b ∧ b < w.heap.size ∧ v.ownBlock ≠ some b
/-- A list of nodes of the call's own: what hangs on them lies anywhere from block P on, but in its own row. -/
def OwnK (w : World) (base : Nat) (P : Nat → Prop) (l : List Nd) (v : Value) : Prop := OwnT w base (SubK P w v) l v

theorem OwnK.nil (w : World) (base : Nat) (P : Nat → Prop) : OwnK w base P [] (.slice none 0 0) := OwnT.nil _ _ _

/-- It stays, behind a call that only makes new blocks. -/
theorem OwnK.later {w w' : World} {base : Nat} {P : Nat → Prop} {l : List Nd} {v : Value} (h : OwnK w base P l v) (hb : Below w.heap.size w w') : OwnK w' base P l v :=
  OwnT.later h hb (fun b hs => hs.2.1) (fun b hs => ⟨hs.1, Nat.lt_of_lt_of_le hs.2.1 hb.size, hs.2.2⟩) (fun g hg hs => hs.2.2 hg)
theorem OwnK.tree {w : World} {base : Nat} {P : Nat → Prop} {l : List Nd} {v : Value} (h : OwnK w base P l v) (hlo : ∀ b, base ≤ b → P b) : Tree (fun b => P b ∧ b < w.heap.size) w l v := by
  have hlt := OwnT.lt h
  refine (OwnT.tree h).mono fun b hb => ?_
  rcases hb with hb | hb
  · exact ⟨hb.1, hb.2.1⟩
  · have := hlt b hb
    exact ⟨hlo b this.1, this.2⟩

/-- One node more, at an operation. -/
theorem wp_append_nodeK {w : World} {o : Oper} {a : Act} {K : Act → World → Prop} {Q : Exit → Act → World → Prop} (s x : Operand)
    (ho : o.op = .call { callee := .builtin .append, args := #[s, x], argTypes := #[22, 22] })
    (base : Nat) (P : Nat → Prop) (l : List Nd) (v : Value) (hs : a.eval s = v) (h : OwnK w base P l v) (r : Rn) (ad : Addr) (c : Nat) (hx : a.eval x = .slice (some ad) 1 c)
    (hnews : ∀ j u, (ncells1 r)[j]? = some u → w.cell? (ad.add j) = some u) (hat : AttrsAt (SubK P w v) w r.n.attrs r.va) (hk : Tree (SubK P w v) w r.n.kids r.vk)
    (hlen : l.length ≤ 1000000) (hbase : base ≤ w.heap.size)
    (hK' : ∀ v' w', OwnK w' base P (l ++ [r.n]) v' → w.grownBy w' v.ownBlock → K (a.put o.dst v') w') :
    Oper.wp Tryz.prog o a w K Q := by
  obtain ⟨i0, hi, hz0, hz1, hz2⟩ := info_parts info_node
  obtain ⟨R, rfl, hown, hat0, hk0, hn⟩ := h
  rw [List.length_map] at hlen
  obtain ⟨A1, c1, hva, _⟩ := id hat
  obtain ⟨A2, c2, hvk, _⟩ := hk.shape
  have h1 : ∀ u ∈ ncells1 r, u.oneCell' = true := by
    intro u hu
    simp only [ncells1, List.mem_cons, List.not_mem_nil, or_false] at hu
    rcases hu with rfl | rfl | rfl | rfl | rfl
    · rfl
    · rfl
    · rw [hva]; rfl
    · rfl
    · rw [hvk]; rfl
  obtain ⟨v', w', hrun, own', hgr, hnew⟩ := run_append_new (w := w) base 22 o.type 35 i0 _ 5 88 Tryz.underlying22 hi hz0 hz1 hz2 rfl (by decide) v R.length (ncells R) hown ad 1 c (ncells1 r) rfl hnews h1 (by unfold maxLen; omega) (by omega) hbase
  unfold Oper.wp
  simp [execOp, ho, resolve, invoke, builtin, hs, hx, hrun, Result.andThen]
  have hSS : ∀ b, SubK P w v b → SubK P w' v' b := by
    intro b hb
    refine ⟨hb.1, Nat.lt_of_lt_of_le hb.2.1 hgr.size, ?_⟩
    rcases hnew with e | e
    · rw [e]; exact hb.2.2
    · intro hg
      have := e b hg
      have := hb.2.1
      omega
  have kp : Kept (SubK P w v) w w' := Kept.grown hgr fun b hb => ⟨hb.2.1, fun e => hb.2.2 e.symm⟩
  refine (hK' v' w' ⟨R ++ [r], by simp, ?_, ?_, ?_, fun g hg hs => hs.2.2 hg⟩ hgr)
  · rw [List.length_append, ncells_append]
    have : ncells [r] = ncells1 r := by simp [ncells]
    rw [this]
    exact own'
  · intro q hq
    rcases List.mem_append.1 hq with hq | hq
    · exact ((hat0 q hq).keep kp).mono hSS
    · simp at hq
      subst hq
      exact (AttrsAt.keep hat kp).mono hSS
  · intro q hq
    rcases List.mem_append.1 hq with hq | hq
    · exact ((hk0 q hq).keep kp).mono hSS
    · simp at hq
      subst hq
      exact (hk.keep kp).mono hSS

/-- One node more. -/
theorem wpList_append_nodeK {w : World} {ops : Array Oper} {rest : List Oper} {o : Oper} {a : Act} {Q : Exit → Act → World → Prop} (hgd : o.guard = none) (s x : Operand)
    (ho : o.op = .call { callee := .builtin .append, args := #[s, x], argTypes := #[22, 22] })
    (base : Nat) (P : Nat → Prop) (l : List Nd) (v : Value) (hs : a.eval s = v) (h : OwnK w base P l v) (r : Rn) (ad : Addr) (c : Nat) (hx : a.eval x = .slice (some ad) 1 c)
    (hnews : ∀ j u, (ncells1 r)[j]? = some u → w.cell? (ad.add j) = some u) (hat : AttrsAt (SubK P w v) w r.n.attrs r.va) (hk : Tree (SubK P w v) w r.n.kids r.vk)
    (hlen : l.length ≤ 1000000) (hbase : base ≤ w.heap.size)
    (hK : ∀ v' w', OwnK w' base P (l ++ [r.n]) v' → w.grownBy w' v.ownBlock → wpList Tryz.prog ops Q rest (a.put o.dst v') w') :
    wpList Tryz.prog ops Q (o :: rest) a w := by
  exact wpList_plain hgd fun K hK' => wp_append_nodeK s x ho base P l v hs h r ad c hx hnews hat hk hlen hbase fun v' w' h1 h2 => hK' _ _ (hK v' w' h1 h2)

/-- One node more, at a step of a region that draws its order. -/
theorem step_append_nodeK {w : World} {ops : Array Oper} {o : Oper} {a : Act} {K : Act → World → Prop} {Q : Exit → Act → World → Prop} {E : Prop} (hgd : o.guard = none) (s x : Operand)
    (ho : o.op = .call { callee := .builtin .append, args := #[s, x], argTypes := #[22, 22] })
    (base : Nat) (P : Nat → Prop) (l : List Nd) (v : Value) (hs : a.eval s = v) (h : OwnK w base P l v) (r : Rn) (ad : Addr) (c : Nat) (hx : a.eval x = .slice (some ad) 1 c)
    (hnews : ∀ j u, (ncells1 r)[j]? = some u → w.cell? (ad.add j) = some u) (hat : AttrsAt (SubK P w v) w r.n.attrs r.va) (hk : Tree (SubK P w v) w r.n.kids r.vk)
    (hlen : l.length ≤ 1000000) (hbase : base ≤ w.heap.size)
    (hK : ∀ v' w', OwnK w' base P (l ++ [r.n]) v' → w.grownBy w' v.ownBlock → K (a.put o.dst v') w') :
    if Region.wanted o (yielded ops a.tmps) = true then Oper.wp Tryz.prog o a w K Q else E := by
  have hw : Region.wanted o (yielded ops a.tmps) = true := by simp [Region.wanted, hgd]
  rw [if_pos hw]
  exact wp_append_nodeK s x ho base P l v hs h r ad c hx hnews hat hk hlen hbase hK

/-- What came in stays, while the call makes its own; its blocks are none of the call's own row. -/
theorem input_keptK {w wr : World} {P : Nat → Prop} {l : List Nd} {v : Value} (hb : Below w.heap.size w wr) (h : OwnK wr w.heap.size P l v) (o : Obj) :
    Kept (fun b => P b ∧ b < w.heap.size) w (wr.alloc o) ∧ ∀ b, (P b ∧ b < w.heap.size) → SubK P (wr.alloc o) v b := by
  refine ⟨Kept.belowB (hb.alloc hb.size _) fun b hb => hb.2, fun b hlt => ⟨hlt.1, ?_, fun e => ?_⟩⟩
  · have := hb.size
    simp
    omega
  · have := (OwnT.lt h b e).1
    omega

theorem OwnK.drew {w : World} {base : Nat} {P : Nat → Prop} {l : List Nd} {v : Value} (h : OwnK w base P l v) : OwnK w.drew base P l v := h.later ((Below.refl _ _).drew)


/-- The last node's cells. -/
theorem OwnK.last {w : World} {base n c : Nat} {P : Nat → Prop} {A : Option Addr} {m : List Nd} {x : Nd} (h : OwnK w base P (m ++ [x]) (.slice A n c)) :
    ∃ g, A = some ⟨g, 0, none⟩ ∧ n = m.length + 1 ∧ base ≤ g ∧ w.cell? ⟨g, m.length * 5, none⟩ = some (.int .i64 x.kind) ∧ w.cell? ⟨g, m.length * 5 + 3, none⟩ = some (.string x.text) ∧ w.frozen? ⟨g, m.length * 5 + 3, none⟩ = false := by
  obtain ⟨R, hl, hown, hat, hk, hn⟩ := h
  obtain ⟨A', c', hv, _⟩ := own_size hown
  have hnl : n = R.length := by injection hv
  subst hnl
  have hR : 0 < R.length := by
    have := congrArg List.length hl
    simp at this
    omega
  obtain ⟨M, r, rfl⟩ := snoc_of hR
  have hml : M.map Rn.n = m ∧ r.n = x := by
    rw [List.map_append] at hl
    have := List.append_inj' hl (by simp)
    exact ⟨this.1, by simpa using this.2⟩
  have hlen : m.length = M.length := by rw [← hml.1]; simp
  obtain ⟨g, rfl, hcells⟩ : ∃ g, A = some ⟨g, 0, none⟩ ∧ True := by
    rcases hown.2 with ⟨_, h0⟩ | ⟨g, cap, cur, hv, _⟩
    · simp at h0
    · injection hv with hA
      exact ⟨g, hA, trivial⟩
  have ha := ncells_at (R := M ++ [r]) (k := M.length) (r := r) (by simp)
  have hb := hown.lt g rfl
  rw [hlen]
  refine ⟨g, rfl, by simp, hb.1, ?_, ?_, ?_⟩
  · rw [hown.cellAt (M.length * 5) (by rw [List.length_append, List.length_singleton]; omega), ha.1, hml.2]
  · rw [hown.cellAt (M.length * 5 + 3) (by rw [List.length_append, List.length_singleton]; omega), ha.2.2.2.1, hml.2]
  · exact hown.frozenAt _

/-- The last node's text is another one. -/
theorem OwnK.text {w : World} {base g n c : Nat} {P : Nat → Prop} {m : List Nd} {x : Nd} (h : OwnK w base P (m ++ [x]) (.slice (some ⟨g, 0, none⟩) n c)) (t : ByteArray) :
    OwnK (w.setCell ⟨g, m.length * 5 + 3, none⟩ (.string t)) base P (m ++ [.mk x.kind x.name x.attrs t x.kids]) (.slice (some ⟨g, 0, none⟩) n c) ∧ w.grownBy (w.setCell ⟨g, m.length * 5 + 3, none⟩ (.string t)) (some g) := by
  obtain ⟨R, hl, hown, hat, hk, hn⟩ := h
  obtain ⟨A, c', hv, _⟩ := own_size hown
  have hnl : n = R.length := by injection hv
  subst hnl
  have hR : 0 < R.length := by
    have := congrArg List.length hl
    simp at this
    omega
  obtain ⟨M, r, rfl⟩ := snoc_of hR
  have hml : M.map Rn.n = m ∧ r.n = x := by
    rw [List.map_append] at hl
    have := List.append_inj' hl (by simp)
    exact ⟨this.1, by simpa using this.2⟩
  have hlen : m.length = M.length := by rw [← hml.1]; simp
  have st := hown.stored (m.length * 5 + 3) (.string t)
  have hsz : (w.setCell ⟨g, m.length * 5 + 3, none⟩ (.string t)).heap.size = w.heap.size := by simp
  have kp : Kept (SubK P w (.slice (some ⟨g, 0, none⟩) (M ++ [r]).length c)) w (w.setCell ⟨g, m.length * 5 + 3, none⟩ (.string t)) := Kept.grown st.2 fun b hb => ⟨hb.2.1, fun e => hb.2.2 (by injection e with e; subst e; rfl)⟩
  have hSS : ∀ b, SubK P w (.slice (some ⟨g, 0, none⟩) (M ++ [r]).length c) b → SubK P (w.setCell ⟨g, m.length * 5 + 3, none⟩ (.string t)) (.slice (some ⟨g, 0, none⟩) (M ++ [r]).length c) b := fun b hb => ⟨hb.1, by rw [hsz]; exact hb.2.1, hb.2.2⟩
  refine ⟨⟨M ++ [⟨.mk r.n.kind r.n.name r.n.attrs t r.n.kids, r.va, r.vk⟩], ?_, ?_, ?_, ?_, fun g hg hs => hs.2.2 hg⟩, st.2⟩
  · rw [List.map_append, hml.1, ← hml.2]
    rfl
  · have := st.1
    rw [hlen, ncells_set] at this
    rw [hlen]
    simpa using this
  · intro q hq
    rcases List.mem_append.1 hq with hq | hq
    · exact ((hat q (by simp [hq])).keep kp).mono hSS
    · simp at hq
      subst hq
      exact ((hat r (by simp)).keep kp).mono hSS
  · intro q hq
    rcases List.mem_append.1 hq with hq | hq
    · exact ((hk q (by simp [hq])).keep kp).mono hSS
    · simp at hq
      subst hq
      exact ((hk r (by simp)).keep kp).mono hSS

end Go.Proofs.YthmnnalamaponaaGreat
