/- Parts of the proof, in build order: ShpM ShpR BldS WgtR BldG WrpM TreeJ TokL. -/
import Derived.Test.YtfdgmoakobjohaaK05
import Derived.Test.YtfdgmoakobjohaaK02
import Derived.Test.YtfdgmoakobjohaaK03
import Derived.Test.YtfdgmoakobjohaaK11
import Derived.Test.YtfdgmoakobjohaaK08
import Derived.Deep.RegionHeld3
import Derived.IntWalk
import Derived.Test.YtfdgmoakobjohaaK10
import Derived.Test.YtfdgmoakobjohaaK09
import Derived.Test.YtfdgmoakobjohaaK06

/- Part ShpM. -/
namespace Go.Proofs.Ytfdgmoakobjohaa
set_option linter.unusedVariables false

/-- A parent's kids have their shape. -/
inductive ShL : List UInt8 → List Nd → Prop
  | mk (p : List UInt8) (l : List Nd) (hv : voidB p = true → l = []) (hc : ∀ n ∈ l, n.kind = 1 → closesB p n.name.data.toList = false) (hs : sides false l) (hk : ∀ n ∈ l, ShL n.name.data.toList n.kids) : ShL p l
theorem ShL.void {p : List UInt8} {l : List Nd} (h : ShL p l) : voidB p = true → l = [] := by cases h; assumption
theorem ShL.closes {p : List UInt8} {l : List Nd} (h : ShL p l) : ∀ n ∈ l, n.kind = 1 → closesB p n.name.data.toList = false := by cases h; assumption
theorem ShL.sides_ {p : List UInt8} {l : List Nd} (h : ShL p l) : sides false l := by cases h; assumption
theorem ShL.kids {p : List UInt8} {l : List Nd} (h : ShL p l) : ∀ n ∈ l, ShL n.name.data.toList n.kids := by cases h; assumption
theorem ShL.nil (p : List UInt8) : ShL p [] := .mk p [] (fun _ => rfl) (by simp) trivial (by simp)

theorem mstep_sides {out : List Nd} {n : Nd} (h : sides false out) : sides false (mstep out n) := by
  unfold mstep
  split
  · exact h
  · rename_i h1
    split
    · rename_i h2
      have hne : 0 < out.length := by
        rcases Nat.eq_zero_or_pos out.length with h0 | h0
        · have := List.eq_nil_of_length_eq_zero h0
          subst this
          cases h2.2
        · exact h0
      obtain ⟨m, x, rfl⟩ := snoc_of hne
      have hx2 : x.kind = 2 := by
        have := h2.2
        rw [lastText_snoc] at this
        simpa using this
      rw [sides_snoc] at h
      rw [mglue_snoc, sides_snoc]
      refine ⟨h.1, fun _ => ⟨?_, (h.2 hx2).2⟩⟩
      show (x.text ++ n.text).data.toList ≠ []
      rw [ByteArray.data_append, Array.toList_append]
      intro e
      exact (h.2 hx2).1 (List.append_eq_nil_iff.1 e).1
    · rename_i h2
      rw [sides_snoc]
      refine ⟨h, fun hk2 => ⟨fun e => h1 ⟨hk2, e⟩, ?_⟩⟩
      split
      · rfl
      · cases hl : lastText out with
        | false => rfl
        | true => exact absurd ⟨hk2, hl⟩ h2
theorem mstep_sh {p : List UInt8} {l : List Nd} {n : Nd} (hv : voidB p = false) (h : ShL p l) (hc : n.kind = 1 → closesB p n.name.data.toList = false) (hk : ShL n.name.data.toList n.kids) : ShL p (mstep l n) := by
  have hs := mstep_sides (n := n) h.sides_
  refine .mk p _ (fun e => by rw [hv] at e; cases e) ?_ hs ?_
  all_goals
    intro x hx
    unfold mstep at hx
    split at hx
    · first
        | exact h.closes x hx
        | exact h.kids x hx
    · split at hx
      · rename_i h2
        have hne : 0 < l.length := by
          rcases Nat.eq_zero_or_pos l.length with h0 | h0
          · have := List.eq_nil_of_length_eq_zero h0
            subst this
            cases h2.2
          · exact h0
        obtain ⟨m, y, rfl⟩ := snoc_of hne
        rw [mglue_snoc] at hx
        rcases List.mem_append.1 hx with hx | hx
        · first
            | exact h.closes x (by simp [hx])
            | exact h.kids x (by simp [hx])
        · simp only [List.mem_singleton] at hx
          subst hx
          first
            | exact h.closes y (by simp)
            | exact h.kids y (by simp)
      · rcases List.mem_append.1 hx with hx | hx
        · first
            | exact h.closes x hx
            | exact h.kids x hx
        · simp only [List.mem_singleton] at hx
          subst hx
          first
            | exact hc
            | exact hk

/-- The open elements: none is void, each has its shape, and closes not the one around it. -/
def chainSh : List Fr → Prop
  | [] => True
  | [f] => True
  | f :: g :: l => closesB g.name.data.toList f.name.data.toList = false ∧ chainSh (g :: l)
structure BSh (s : Bst) : Prop where
  fr : ∀ f ∈ s.fs, voidB f.name.data.toList = false ∧ ShL f.name.data.toList f.kids
  ch : chainSh s.fs
  out : ShL [] s.out
theorem void_none : voidB [] = false := by decide +kernel
theorem closes_none (b : List UInt8) : closesB [] b = false := by
  unfold closesB closedBy
  simp
theorem addTo_sh {s : Bst} {n : Nd} (h : BSh s) (hk : ShL n.name.data.toList n.kids) (hc : ∀ f fs, s.fs = f :: fs → n.kind = 1 → closesB f.name.data.toList n.name.data.toList = false) : BSh (addTo s n) := by
  obtain ⟨fs, out⟩ := s
  cases fs with
  | nil => exact ⟨(fun f hf => by cases hf), trivial, mstep_sh void_none h.out (fun _ => closes_none _) hk⟩
  | cons f fs =>
    have h0 := h.fr f (by simp)
    refine ⟨fun g hg => ?_, ?_, h.out⟩
    · rcases List.mem_cons.1 hg with rfl | hg
      · exact ⟨h0.1, mstep_sh h0.1 h0.2 (hc f fs rfl) hk⟩
      · exact h.fr g (List.mem_cons_of_mem _ hg)
    · have := h.ch
      cases fs with
      | nil => trivial
      | cons g gs => exact ⟨this.1, this.2⟩
theorem pop_sh {s : Bst} (h : BSh s) : BSh (popB s) := by
  obtain ⟨fs, out⟩ := s
  cases fs with
  | nil => exact h
  | cons f fs =>
    have h0 := h.fr f (by simp)
    refine addTo_sh ⟨fun g hg => h.fr g (List.mem_cons_of_mem _ hg), ?_, h.out⟩ h0.2 fun g gs hg _ => ?_
    · have := h.ch
      cases fs with
      | nil => trivial
      | cons g gs => exact this.2
    · have hch := h.ch
      have hfs : fs = g :: gs := hg
      subst hfs
      exact hch.1
theorem popN_sh : ∀ (n : Nat) {s : Bst}, BSh s → BSh (popN n s)
  | 0, s, h => h
  | n + 1, s, h => popN_sh n (pop_sh h)
theorem put_sh {s : Bst} {k : Tk} (h : BSh s) : BSh (putB s k) := by
  unfold putB
  split
  · obtain ⟨c, hcnt⟩ : ∃ c, (s.fs.takeWhile (shutBy k.name.data.toList)).length = c := ⟨_, rfl⟩
    rw [hcnt]
    have hp := popN_sh c h
    have hcl : ∀ f fs, (popN c s).fs = f :: fs → closesB f.name.data.toList k.name.data.toList = false := by
      intro f fs hf
      have hnm := popN_names c s
      obtain ⟨g, gs, hg, he⟩ : ∃ g gs, s.fs.drop c = g :: gs ∧ g.name = f.name := by
        rw [← List.map_drop] at hnm
        exact names_head hnm hf
      rw [← hcnt] at hg
      have := tw_stop hg
      unfold shutBy at this
      rw [← he]
      exact this
    dsimp only
    split
    · exact addTo_sh hp (ShL.nil _) fun f fs hf _ => hcl f fs hf
    · rename_i hv
      refine ⟨fun f hf => ?_, ?_, hp.out⟩
      · rcases List.mem_cons.1 hf with rfl | hf
        · exact ⟨by simpa using hv, ShL.nil _⟩
        · exact hp.fr f hf
      · show chainSh (⟨k.name, k.attrs, []⟩ :: (popN c s).fs)
        cases hfs : (popN c s).fs with
        | nil => trivial
        | cons g gs =>
          refine ⟨hcl g gs hfs, ?_⟩
          rw [← hfs]
          exact hp.ch
  · split
    · split
      · exact h
      · exact popN_sh _ h
    · split
      · exact addTo_sh h (ShL.nil _) fun f fs _ e => absurd e (by show (2 : Int) ≠ 1; decide)
      · split
        · exact addTo_sh h (ShL.nil _) fun f fs _ e => absurd e (by show (3 : Int) ≠ 1; decide)
        · exact h
theorem puts_sh : ∀ (l : List Tk) (s : Bst), BSh s → BSh (l.foldl putB s)
  | [], s, h => h
  | k :: l, s, h => puts_sh l _ (put_sh h)
/-- Whatever tokens are built as has its shape. -/
theorem tree_shape (l : List Tk) : ShL [] (treeB l) :=
  (popN_sh _ (puts_sh l ⟨[], []⟩ ⟨(fun f hf => by cases hf), trivial, ShL.nil _⟩)).out

/-! ### what is built weighs no more -/
mutual
def wtN : Nd → Nat
  | .mk _ _ a _ ks => 1 + a.length + wtL ks
def wtL : List Nd → Nat
  | [] => 0
  | n :: l => wtN n + wtL l
end
theorem wtN_eq (n : Nd) : wtN n = 1 + n.attrs.length + wtL n.kids := by cases n; simp [wtN, Nd.attrs, Nd.kids]
theorem wtL_cons (n : Nd) (l : List Nd) : wtL (n :: l) = wtN n + wtL l := by simp [wtL]
theorem wtL_nil : wtL [] = 0 := by simp [wtL]
theorem wtL_append : ∀ a b : List Nd, wtL (a ++ b) = wtL a + wtL b
  | [], b => by rw [List.nil_append, wtL_nil, Nat.zero_add]
  | n :: a, b => by rw [List.cons_append, wtL_cons, wtL_cons, wtL_append a b]; omega
theorem mstep_wt (out : List Nd) (n : Nd) : wtL (mstep out n) ≤ wtL out + wtN n := by
  unfold mstep
  split
  · omega
  · split
    · rename_i h2
      have hne : 0 < out.length := by
        rcases Nat.eq_zero_or_pos out.length with h0 | h0
        · have := List.eq_nil_of_length_eq_zero h0
          subst this
          cases h2.2
        · exact h0
      obtain ⟨m, x, rfl⟩ := snoc_of hne
      have e : wtN (.mk x.kind x.name x.attrs (x.text ++ n.text) x.kids) = wtN x := by rw [wtN_eq x]; rfl
      rw [mglue_snoc, wtL_append, wtL_append, wtL_cons, wtL_cons, wtL_nil, e]
      omega
    · rw [wtL_append, wtL_cons, wtL_nil]
      omega
def wtF (f : Fr) : Nat := 1 + f.attrs.length + wtL f.kids
def wtFs : List Fr → Nat
  | [] => 0
  | f :: l => wtF f + wtFs l
def wtB (s : Bst) : Nat := wtFs s.fs + wtL s.out
/-- What a token weighs. -/
def wtK (k : Tk) : Nat := if k.kind = 1 then 1 + k.attrs.length else if k.kind = 3 ∨ k.kind = 4 then 1 else 0
def wtKs : List Tk → Nat
  | [] => 0
  | k :: l => wtK k + wtKs l
theorem add_wt (s : Bst) (n : Nd) : wtB (addTo s n) ≤ wtB s + wtN n := by
  obtain ⟨fs, out⟩ := s
  cases fs with
  | nil =>
    have := mstep_wt out n
    simp only [addTo, wtB, wtFs]
    omega
  | cons f fs =>
    have := mstep_wt f.kids n
    simp only [addTo, wtB, wtFs, wtF]
    omega
theorem pop_wt (s : Bst) : wtB (popB s) ≤ wtB s := by
  obtain ⟨fs, out⟩ := s
  cases fs with
  | nil => exact Nat.le_refl _
  | cons f fs =>
    have h := add_wt ⟨fs, out⟩ (nodeOf f)
    have e : wtN (nodeOf f) = wtF f := by rw [wtN_eq]; rfl
    rw [e] at h
    simp only [popB, wtB, wtFs] at h ⊢
    omega
theorem popN_wt : ∀ (n : Nat) (s : Bst), wtB (popN n s) ≤ wtB s
  | 0, s => Nat.le_refl _
  | n + 1, s => Nat.le_trans (popN_wt n (popB s)) (pop_wt s)
theorem put_wt (s : Bst) (k : Tk) : wtB (putB s k) ≤ wtB s + wtK k := by
  unfold putB wtK
  split
  · have h := popN_wt (s.fs.takeWhile (shutBy k.name.data.toList)).length s
    dsimp only
    split
    · have h2 := add_wt (popN (s.fs.takeWhile (shutBy k.name.data.toList)).length s) (.mk 1 k.name k.attrs (tB []) [])
      have e : wtN (.mk 1 k.name k.attrs (tB []) []) = 1 + k.attrs.length := by rw [wtN_eq]; show 1 + k.attrs.length + wtL [] = _; rw [wtL_nil]; omega
      omega
    · simp only [wtB, wtFs, wtF, wtL_nil] at h ⊢
      omega
  · split
    · split
      · omega
      · exact Nat.le_trans (popN_wt _ _) (by omega)
    · split
      · rename_i h3
        have h2 := add_wt s (textN k.text)
        have e : wtN (textN k.text) = 1 := by rw [wtN_eq]; show 1 + 0 + wtL [] = _; rw [wtL_nil]
        rw [if_pos (.inl h3)]
        omega
      · split
        · rename_i h4
          have h2 := add_wt s (remN k.text)
          have e : wtN (remN k.text) = 1 := by rw [wtN_eq]; show 1 + 0 + wtL [] = _; rw [wtL_nil]
          rw [if_pos (.inr h4)]
          omega
        · omega
theorem puts_wt : ∀ (l : List Tk) (s : Bst), wtB (l.foldl putB s) ≤ wtB s + wtKs l
  | [], s => by simp [wtKs]
  | k :: l, s => by
    rw [List.foldl_cons]
    have h1 := puts_wt l (putB s k)
    have h2 := put_wt s k
    simp only [wtKs]
    omega
theorem tree_wt (l : List Tk) : wtL (treeB l) ≤ wtKs l := by
  have h1 := puts_wt l ⟨[], []⟩
  have h2 := popN_wt (l.foldl putB ⟨[], []⟩).fs.length (l.foldl putB ⟨[], []⟩)
  have e : wtB ⟨[], []⟩ = 0 := by show 0 + wtL [] = 0; rw [wtL_nil]
  have h3 : wtL (treeB l) ≤ wtB (popN (l.foldl putB ⟨[], []⟩).fs.length (l.foldl putB ⟨[], []⟩)) := Nat.le_add_left _ _
  omega

end Go.Proofs.Ytfdgmoakobjohaa

/- Part ShpR. -/
namespace Go.Proofs.Ytfdgmoakobjohaa
open Go.RowKit
set_option linter.unusedVariables false

theorem sides_at : ∀ {l : List Nd} {b : Bool} {i : Nat} {m : Nd}, sides b l → l[i]? = some m → m.kind = 2 → m.text.data.toList ≠ [] ∧ ∀ j x, i = j + 1 → l[j]? = some x → x.kind ≠ 2
  | n :: l, b, 0, m, h, hi, h2 => by
    injection hi with hi
    subst hi
    exact ⟨(h.1 h2).1, fun j x hj => by omega⟩
  | n :: l, b, i + 1, m, h, hi, h2 => by
    have hi' : l[i]? = some m := hi
    have h3 := sides_at h.2 hi' h2
    refine ⟨h3.1, fun j x hj hx => ?_⟩
    cases j with
    | zero =>
      have hi0 : i = 0 := by omega
      subst hi0
      injection hx with hx
      subst hx
      cases l with
      | nil => cases hi'
      | cons y l =>
        injection hi' with hy
        subst hy
        intro e
        have := (h.2.1 h2).2
        rw [e] at this
        cases this
    | succ j => exact h3.2 j x (by omega) hx

def SpRel (w : World) (n : Nat) (x : Value) (wr : World) : Prop := ∃ k : Nat, x = .int .i64 k ∧ k ≤ n ∧ Below w.heap.size w wr

set_option maxHeartbeats 8000000 in
set_option maxRecDepth 100000 in
theorem shapedR_any (l : List Nd) : ∀ (p : ByteArray) (S : Nat → Prop) (v : Value) (w : World), Tree S w l v → (∀ b, S b → b < w.heap.size) → szL l ≤ 1000000 → ShL p.data.toList l →
    Calls Try.prog 7 #[.string p, v] w fun e w' => e = .returned (.bool true) ∧ Below w.heap.size w w' := by
  induction l using nd_ind with
  | h l ih =>
  intro p S v w hT hS hsz hSh
  have hlen := szL_len l
  obtain ⟨A, c, rfl, hc⟩ := hT.shape
  have HT := Lib.hid hT
  have HIH := Lib.hid ih
  have HSH := Lib.hid hSh
  have HV := Lib.hid (voidR_any p)
  obtain ⟨vd, hvd⟩ : ∃ q, voidB p.data.toList = q := ⟨_, rfl⟩
  rw [hvd] at HV
  have hvl : vd = true → l.length = 0 := fun e => by rw [hSh.void (by rw [hvd, e])]; rfl
  have HVL := Lib.hid hvl
  clear hT ih hSh hvd hvl
  go_enter Try.func7, Try.ntmps7
  go_wp2_with fail
  refine (HV.out _).mono ?_
  rintro e w0 ⟨rfl, rfl⟩
  cases vd with
  | true =>
    have hl0 : l = [] := List.eq_nil_of_length_eq_zero (HVL.out rfl)
    subst hl0
    go_wp2_with fail
    go_loopw [6, 7, 8] (fun x _ _ wr => SpRel w 0 x wr) (fun x _ _ _ => 0 - (intOf x).toNat)
    case atStart => exact ⟨0, rfl, by omega, Below.refl _ _⟩
    case round =>
      obtain ⟨i, rfl, hi, hbr⟩ := hrel
      obtain rfl : i = 0 := by omega
      go_wp2_with fail
      go_ret
      exact ⟨rfl, hbr⟩
  | false =>
    go_wp2_with fail
    go_loopw [6, 7, 8] (fun x _ _ wr => SpRel w l.length x wr) (fun x _ _ _ => l.length - (intOf x).toNat)
    case atStart => exact ⟨0, rfl, by omega, Below.refl _ _⟩
    case round =>
      obtain ⟨i, rfl, hi, hbr⟩ := hrel
      by_cases hlt : i < l.length
      · obtain ⟨b, o, c', hv, _, hSb, hcell⟩ := HT.out.open_ (by omega)
        injection hv with hA _ hcc
        subst hA
        subst hcc
        obtain ⟨m, hm⟩ : ∃ m, l[i]? = some m := ⟨_, List.getElem?_eq_getElem hlt⟩
        obtain ⟨ma, mk, hmt⟩ := hcell i m hm
        have hmem := List.mem_of_getElem? hm
        have hb := hS b hSb
        obtain ⟨A4, c4, rfl, _⟩ := hmt.kids.shape
        have q0 : wr.cell? ⟨b, o + i * 5, none⟩ = some (.int .i64 m.kind) := (hbr.cell (p := ⟨b, o + i * 5, none⟩) hb).trans hmt.c0
        have q1 : wr.cell? ⟨b, o + i * 5 + 1, none⟩ = some (.string m.name) := (hbr.cell (p := ⟨b, o + i * 5 + 1, none⟩) hb).trans hmt.c1
        have q3 : wr.cell? ⟨b, o + i * 5 + 3, none⟩ = some (.string m.text) := (hbr.cell (p := ⟨b, o + i * 5 + 3, none⟩) hb).trans hmt.c3
        have hzm := szL_at hm
        rw [szN_eq] at hzm
        have hi4 : i + 1 ≤ l.length := hlt
        have i1 : (i : Int) < (l.length : Int) := by omega
        have i2 : (0 : Int) ≤ (i : Int) := by omega
        have HKA := Lib.hid (fun (W : World) (hW : Below w.heap.size w W) => HIH.out i m hm m.name S (.slice A4 m.kids.length c4) W (hmt.kids.keep (Kept.belowB hW hS)) (fun b h => Nat.lt_of_lt_of_le (hS b h) hW.size) (by omega) (HSH.out.kids m hmem))
        have HCL := Lib.hid (fun (e : m.kind = 1) => HSH.out.closes m hmem e)
        have HSA := Lib.hid (fun (e : m.kind = 2) => sides_at HSH.out.sides_ hm e)
        have HCA := Lib.hid (closesR_any p m.name)
        have HMT := Lib.hid hmt
        have hprev : ∀ j, i = j + 1 → ∃ k', wr.cell? ⟨b, o + j * 5, none⟩ = some (.int .i64 k') ∧ (m.kind = 2 → k' ≠ 2) := by
          intro j hj
          obtain ⟨x, hx⟩ : ∃ x, l[j]? = some x := ⟨_, List.getElem?_eq_getElem (by omega)⟩
          obtain ⟨xa, xk, hxt⟩ := hcell j x hx
          exact ⟨x.kind, (hbr.cell (p := ⟨b, o + j * 5, none⟩) hb).trans hxt.c0, fun h2 => (HSA.out h2).2 j x hj hx⟩
        have HPV := Lib.hid hprev
        clear hcell hm hmt hmem hprev
        have hways : m.kind = 1 ∨ (m.kind = 2 ∧ i = 0) ∨ (m.kind = 2 ∧ ∃ j, i = j + 1) ∨ (m.kind ≠ 1 ∧ m.kind ≠ 2) := by
          by_cases h1 : m.kind = 1
          · exact .inl h1
          · refine .inr ?_
            by_cases h2 : m.kind = 2
            · rcases Nat.eq_zero_or_pos i with h | h
              · exact .inl ⟨h2, h⟩
              · exact .inr (.inl ⟨h2, i - 1, by omega⟩)
            · exact .inr (.inr ⟨h1, h2⟩)
        rcases hways with h1 | hways
        · have B1 : (m.kind == 1) = true := by simp [h1]
          have B2 : (m.kind == 2) = false := by simp [h1]
          have hcl := HCA.out
          rw [HCL.out h1] at hcl
          have HCB := Lib.hid hcl
          clear hcl h1
          go_wp2_with (go_at_call 18; refine (HCB.out _).mono ?_; rintro e w3 ⟨rfl, hb3⟩; have hbx3 := below_after hbr hb3; have q0' : w3.cell? ⟨b, o + i * 5, none⟩ = some (.int .i64 m.kind) := (hbx3.cell (p := ⟨b, o + i * 5, none⟩) hb).trans HMT.out.c0)
          have s1 : w3.cell? ⟨b, o + i * 5 + 1, none⟩ = some (.string m.name) := (hbx3.cell (p := ⟨b, o + i * 5 + 1, none⟩) hb).trans HMT.out.c1
          have s4 : w3.cell? ⟨b, o + i * 5 + 4, none⟩ = some (.slice A4 m.kids.length c4) := (hbx3.cell (p := ⟨b, o + i * 5 + 4, none⟩) hb).trans HMT.out.c4
          have SK := Lib.hid (fun (W : World) (h : Below w3.heap.size w3 W) => (⟨(h.cell (p := ⟨b, o + i * 5 + 1, none⟩) (Nat.lt_of_lt_of_le hb hbx3.size)).trans s1, (h.cell (p := ⟨b, o + i * 5 + 4, none⟩) (Nat.lt_of_lt_of_le hb hbx3.size)).trans s4⟩ :
            W.cell? ⟨b, o + i * 5 + 1, none⟩ = some (.string m.name) ∧ W.cell? ⟨b, o + i * 5 + 4, none⟩ = some (.slice A4 m.kids.length c4)))
          have hdr := hbx3.drew
          clear q0 q1 q3 q0'
          go_wp2_with fail
          go_region_held3 (fun W => W.cell? ⟨b, o + i * 5 + 1, none⟩ = some (.string m.name) ∧ W.cell? ⟨b, o + i * 5 + 4, none⟩ = some (.slice A4 m.kids.length c4))
            (first
              | exact SK.out _ (Below.refl _ _)
              | exact SK.out _ (Below.refl _ _).drew
              | exact SK.out _ (below_after (Below.refl _ _).drew hb4)
              | exact SK.out _ hb4)
            (first
              | (go_at_call 7; refine Calls.mono (HKA.out _ hdr) ?_; rintro e w4 ⟨rfl, hb4⟩))
          have hbx4 := below_after hdr hb4
          go_wp2_with fail
          go_roundw
          case rel => exact ⟨i + 1, by go_num, hi4, hbx4⟩
          case measure => simp [intOf]; omega
        rcases hways with ⟨h2, h0⟩ | ⟨h2, j, hj⟩ | ⟨h1, h2⟩
        case' inr.inl =>
          have B1 : (m.kind == 1) = false := by simp [h2]
          have B2 : (m.kind == 2) = true := by simp [h2]
          have B3 : m.text.toList.isEmpty = false := by
            rw [Lib.toList_data]
            have := (HSA.out h2).1
            cases hh : m.text.data.toList with
            | nil => exact absurd hh this
            | cons a t => rfl
          have B4 : decide (0 < i) = false := by simp; omega
          clear h2 h0
        case' inr.inr.inl =>
          have B1 : (m.kind == 1) = false := by simp [h2]
          have B2 : (m.kind == 2) = true := by simp [h2]
          have B3 : m.text.toList.isEmpty = false := by
            rw [Lib.toList_data]
            have := (HSA.out h2).1
            cases hh : m.text.data.toList with
            | nil => exact absurd hh this
            | cons a t => rfl
          obtain ⟨k', qj, hk'⟩ := HPV.out j hj
          have B5 : (k' == 2) = false := by simp [hk' h2]
          have e1 : (i : Int) - 1 = (j : Int) := by omega
          have e2 : IntKind.i64.wrap (j : Int) = (j : Int) := IntWalk.i64_in _ (by omega)
          have i3 : (0 : Int) < (i : Int) := by omega
          have i4 : (j : Int) < (l.length : Int) := by omega
          have i5 : (0 : Int) ≤ (j : Int) := by omega
          have B4 : decide ((0 : Int) < (i : Int)) = true := by simp; omega
          clear h2 hk' hj
        case' inr.inr.inr =>
          have B1 : (m.kind == 1) = false := by simp [h1]
          have B2 : (m.kind == 2) = false := by simp [h2]
          clear h1 h2
        all_goals
          have s1 : wr.cell? ⟨b, o + i * 5 + 1, none⟩ = some (.string m.name) := (hbr.cell (p := ⟨b, o + i * 5 + 1, none⟩) hb).trans HMT.out.c1
          have s4 : wr.cell? ⟨b, o + i * 5 + 4, none⟩ = some (.slice A4 m.kids.length c4) := (hbr.cell (p := ⟨b, o + i * 5 + 4, none⟩) hb).trans HMT.out.c4
          have SK := Lib.hid (fun (W : World) (h : Below wr.heap.size wr W) => (⟨(h.cell (p := ⟨b, o + i * 5 + 1, none⟩) (Nat.lt_of_lt_of_le hb hbr.size)).trans s1, (h.cell (p := ⟨b, o + i * 5 + 4, none⟩) (Nat.lt_of_lt_of_le hb hbr.size)).trans s4⟩ :
            W.cell? ⟨b, o + i * 5 + 1, none⟩ = some (.string m.name) ∧ W.cell? ⟨b, o + i * 5 + 4, none⟩ = some (.slice A4 m.kids.length c4)))
          have hdr := hbr.drew
          go_wp2_with fail
          go_region_held3 (fun W => W.cell? ⟨b, o + i * 5 + 1, none⟩ = some (.string m.name) ∧ W.cell? ⟨b, o + i * 5 + 4, none⟩ = some (.slice A4 m.kids.length c4))
            (first
              | exact SK.out _ (Below.refl _ _)
              | exact SK.out _ (Below.refl _ _).drew
              | exact SK.out _ (below_after (Below.refl _ _).drew hb4)
              | exact SK.out _ hb4)
            (first
              | (go_at_call 7; refine Calls.mono (HKA.out _ hdr) ?_; rintro e w4 ⟨rfl, hb4⟩))
          have hbx4 := below_after hdr hb4
          go_wp2_with fail
          go_roundw
          case rel => exact ⟨i + 1, by go_num, hi4, hbx4⟩
          case measure => simp [intOf]; omega
      · go_wp2_with fail
        go_ret
        exact ⟨rfl, hbr⟩

end Go.Proofs.Ytfdgmoakobjohaa

/- Part BldS. -/
namespace Go.Proofs.Ytfdgmoakobjohaa
open Go.RowKit
set_option linter.unusedVariables false

set_option maxHeartbeats 4000000 in
set_option maxRecDepth 100000 in
theorem buildShape_end {Inv : Nat → List Tk → Value → World → Prop} (HTR : TreesSaid) (HB : BldSaid Inv) (l : List Tk) (v : Value) (w : World) (hT : TokAt (· < w.heap.size) w l v) (hl : l.length ≤ maxLen) (hF : ∀ k ∈ l, FineK k) (HGB : Glob w) :
    Calls Try.prog 3 #[v] w fun e w' => e = .returned (.bool true) ∧ Below w.heap.size w w' := by
  have HCUT := Lib.hid (cutT_any l v w hT hl hF)
  clear hT hl hF
  go_enter Try.func3, Try.ntmps3
  go_wp2_with fail
  refine HCUT.out.mono ?_
  rintro e w1 ⟨out, v1, rfl, ho1, hol, hoz, hkw, hb1⟩
  have ht1 : TokAt (· < w1.heap.size) w1 out v1 := ho1.tokAt.mono fun b h => h.2
  have HT1 := Lib.hid (HTR out v1 w1 (HGB.below hb1) ht1 hkw (by omega))
  clear ho1 ht1
  go_wp2_with fail
  refine HT1.out.mono ?_
  rintro e w2 ⟨v2, rfl, ht2, hb2⟩
  have hc2 := below_after hb1 hb2
  have hz2 := tree_sz out
  have HSH := Lib.hid (shapedR_any (treeB out) ⟨#[]⟩ (· < w2.heap.size) v2 w2 ht2 (fun b h => h) (by omega) (tree_shape out))
  clear ht2
  go_wp2_with fail
  refine HSH.out.mono ?_
  rintro e w3 ⟨rfl, hb3⟩
  have hc3 := below_after hc2 hb3
  go_wp2_with fail
  refine (lives7_any HB _ (HGB.below hc3)).mono ?_
  rintro e w4 ⟨rfl, hb4⟩
  have hc4 := below_after hc3 hb4
  go_wp2_with fail
  go_ret
  exact ⟨rfl, hc4⟩

end Go.Proofs.Ytfdgmoakobjohaa

/- Part WgtR. -/
namespace Go.Proofs.Ytfdgmoakobjohaa
open Go.RowKit
set_option linter.unusedVariables false

theorem wt_sz : ∀ l : List Nd, wtL l ≤ szL l := by
  intro l
  induction l using nd_ind with
  | h l ih =>
    have key : ∀ k, k ≤ l.length → wtL (l.take k) ≤ szL (l.take k) := by
      intro k
      induction k with
      | zero => intro _; simp [wtL_nil]
      | succ k ihk =>
        intro hk
        obtain ⟨n, hn⟩ : ∃ n, l[k]? = some n := ⟨_, List.getElem?_eq_getElem (by omega)⟩
        have h1 := ihk (by omega)
        have h2 := ih k n hn
        have h3 := szA_len n.attrs
        rw [List.take_add_one, hn, Option.toList_some, wtL_append, szL_append, wtL_cons, szL_cons, wtL_nil, szL_nil, wtN_eq, szN_eq]
        omega
    have := key l.length (Nat.le_refl _)
    rwa [List.take_length] at this

structure WgAt (w wr : World) (l : List Nd) (k x : Nat) : Prop where
  le : k ≤ l.length
  is : x = wtL (l.take k)
  bel : Below w.heap.size w wr
def WgRel (w : World) (l : List Nd) (x y : Value) (wr : World) : Prop := ∃ k n : Nat, x = .int .i64 n ∧ y = .int .i64 k ∧ WgAt w wr l k n

set_option maxHeartbeats 4000000 in
set_option maxRecDepth 100000 in
theorem weightR_any (l : List Nd) : ∀ (S : Nat → Prop) (v : Value) (w : World), Tree S w l v → (∀ b, S b → b < w.heap.size) → szL l ≤ 1000000 →
    Calls Try.prog 16 #[v] w fun e w' => e = .returned (.int .i64 (wtL l : Nat)) ∧ Below w.heap.size w w' := by
  induction l using nd_ind with
  | h l ih =>
  intro S v w hT hS hsz
  have hlen := szL_len l
  obtain ⟨A, c, rfl, hc⟩ := hT.shape
  have HT := Lib.hid hT
  have HIH := Lib.hid ih
  clear hT ih
  go_enter Try.func16, Try.ntmps16
  go_wp2_with fail
  go_loopw [3, 4] (fun x y wr => WgRel w l x y wr) (fun _ y _ => l.length - (intOf y).toNat)
  case atStart => exact ⟨0, 0, rfl, rfl, by omega, by rw [List.take_zero, wtL_nil], Below.refl _ _⟩
  case round =>
    obtain ⟨i, x, rfl, rfl, HR⟩ := hrel
    obtain ⟨hi, his, hbr⟩ := HR
    have HIS := Lib.hid his
    clear his
    by_cases hlt : i < l.length
    · obtain ⟨b, o, c', hv, _, hSb, hcell⟩ := HT.out.open_ (by omega)
      injection hv with hA _ hcc
      subst hA
      subst hcc
      obtain ⟨m, hm⟩ : ∃ m, l[i]? = some m := ⟨_, List.getElem?_eq_getElem hlt⟩
      obtain ⟨ma, mk, hmt⟩ := hcell i m hm
      have hb := hS b hSb
      obtain ⟨A3, c3, rfl, _, _⟩ := id hmt.at_
      obtain ⟨A4, c4, rfl, _⟩ := hmt.kids.shape
      have q2 : wr.cell? ⟨b, o + i * 5 + 2, none⟩ = some (.slice A3 m.attrs.length c3) := (hbr.cell (p := ⟨b, o + i * 5 + 2, none⟩) hb).trans hmt.c2
      have q4 : wr.cell? ⟨b, o + i * 5 + 4, none⟩ = some (.slice A4 m.kids.length c4) := (hbr.cell (p := ⟨b, o + i * 5 + 4, none⟩) hb).trans hmt.c4
      have hzm := szL_at hm
      rw [szN_eq] at hzm
      have hi4 : i + 1 ≤ l.length := hlt
      have i1 : (i : Int) < (l.length : Int) := by omega
      have i2 : (0 : Int) ≤ (i : Int) := by omega
      have hnx : wtL (l.take (i + 1)) = x + 1 + m.attrs.length + wtL m.kids := by
        rw [List.take_add_one, hm, Option.toList_some, wtL_append, wtL_cons, wtL_nil, wtN_eq, ← HIS.out]
        omega
      have hbig : x + 1 + m.attrs.length + wtL m.kids ≤ 1000000 := by
        rw [← hnx]
        have h1 := wt_sz (l.take (i + 1))
        have h2 : szL (l.take (i + 1)) ≤ szL l := by
          have : szL l = szL (l.take (i + 1)) + szL (l.drop (i + 1)) := by rw [← szL_append, List.take_append_drop]
          omega
        omega
      have HKA := Lib.hid (fun (W : World) (hW : Below w.heap.size w W) => HIH.out i m hm S (.slice A4 m.kids.length c4) W (hmt.kids.keep (Kept.belowB hW hS)) (fun b h => Nat.lt_of_lt_of_le (hS b h) hW.size) (by omega))
      obtain ⟨wk, hwk⟩ : ∃ n, wtL m.kids = n := ⟨_, rfl⟩
      obtain ⟨al, hal⟩ : ∃ n, m.attrs.length = n := ⟨_, rfl⟩
      rw [hwk] at HKA hnx hbig
      rw [hal] at hnx hbig q2
      have HNX := Lib.hid hnx
      have SK := Lib.hid (fun (W : World) (h : Below wr.heap.size wr W) => (⟨(h.cell (p := ⟨b, o + i * 5 + 2, none⟩) (Nat.lt_of_lt_of_le hb hbr.size)).trans q2, (h.cell (p := ⟨b, o + i * 5 + 4, none⟩) (Nat.lt_of_lt_of_le hb hbr.size)).trans q4, below_after hbr h⟩ :
        W.cell? ⟨b, o + i * 5 + 2, none⟩ = some (.slice A3 al c3) ∧ W.cell? ⟨b, o + i * 5 + 4, none⟩ = some (.slice A4 m.kids.length c4) ∧ Below w.heap.size w W))
      have hdr := hbr.drew
      have s1 : IntKind.i64.wrap ((x : Int) + 1) = (x : Int) + 1 := IntWalk.i64_in _ (by omega)
      have s2 : IntKind.i64.wrap ((x : Int) + 1 + (al : Int)) = (x : Int) + 1 + (al : Int) := IntWalk.i64_in _ (by omega)
      have s3 : IntKind.i64.wrap ((x : Int) + 1 + (al : Int) + (wk : Int)) = (x : Int) + 1 + (al : Int) + (wk : Int) := IntWalk.i64_in _ (by omega)
      clear hcell hm hmt hnx hwk hal
      go_wp2_with fail
      go_region_held3 (fun W => W.cell? ⟨b, o + i * 5 + 2, none⟩ = some (.slice A3 al c3) ∧ W.cell? ⟨b, o + i * 5 + 4, none⟩ = some (.slice A4 m.kids.length c4) ∧ Below w.heap.size w W)
        (first
          | exact SK.out _ (Below.refl _ _)
          | exact SK.out _ (Below.refl _ _).drew
          | exact SK.out _ (below_after (Below.refl _ _).drew hb3)
          | exact SK.out _ hb3)
        (first
          | (go_at_call 16; refine Calls.mono (HKA.out _ hdr) ?_; rintro e w3 ⟨rfl, hb3⟩))
      have hbx3 := below_after hdr hb3
      clear s1 s2 s3
      go_wp2_with fail
      go_roundw
      case rel => exact ⟨i + 1, x + 1 + al + wk, by go_num, by go_num, hi4, HNX.out.symm, hbx3⟩
      case measure => simp [intOf]; omega
    · have hke : i = l.length := by omega
      have HF := Lib.hid (show x = wtL l by have := HIS.out; rwa [hke, List.take_length] at this)
      go_wp2_with fail
      go_ret
      rw [HF.out]
      exact ⟨rfl, hbr⟩

end Go.Proofs.Ytfdgmoakobjohaa

/- Part BldG. -/
namespace Go.Proofs.Ytfdgmoakobjohaa
open Go.RowKit
set_option linter.unusedVariables false

theorem wtKs_append : ∀ a b : List Tk, wtKs (a ++ b) = wtKs a + wtKs b
  | [], b => by simp [wtKs]
  | k :: a, b => by rw [List.cons_append]; simp only [wtKs]; rw [wtKs_append a b]; omega
theorem wtKs_sz : ∀ a : List Tk, wtKs a ≤ szKs a
  | [] => by simp [wtKs]
  | k :: a => by
    have h1 := wtKs_sz a
    have h2 := szA_len k.attrs
    simp only [wtKs, szKs]
    unfold wtK szK
    split
    · omega
    · split <;> omega
theorem szKs_take (l : List Tk) (k : Nat) : szKs (l.take k) ≤ szKs l := by
  have : szKs l = szKs (l.take k) + szKs (l.drop k) := by rw [← szKs_append, List.take_append_drop]
  omega

def WeRel (w : World) (out : List Tk) (x y : Value) (wr : World) : Prop := ∃ k n : Nat, x = .int .i64 n ∧ y = .int .i64 k ∧ k ≤ out.length ∧ n = wtKs (out.take k) ∧ Below w.heap.size w wr

set_option maxHeartbeats 4000000 in
set_option maxRecDepth 100000 in
theorem buildWeighs_end {Inv : Nat → List Tk → Value → World → Prop} (HTR : TreesSaid) (HB : BldSaid Inv) (l : List Tk) (v : Value) (w : World) (hT : TokAt (· < w.heap.size) w l v) (hl : l.length ≤ maxLen) (hF : ∀ k ∈ l, FineK k) (HGB : Glob w) :
    Calls Try.prog 6 #[v] w fun e w' => e = .returned (.bool true) ∧ Below w.heap.size w w' := by
  have HCUT := Lib.hid (cutT_any l v w hT hl hF)
  clear hT hl hF
  go_enter Try.func6, Try.ntmps6
  go_wp2_with fail
  refine HCUT.out.mono ?_
  rintro e w1 ⟨out, v1, rfl, ho1, hol, hoz, hkw, hb1⟩
  have ht1 : TokAt (· < w1.heap.size) w1 out v1 := ho1.tokAt.mono fun b h => h.2
  obtain ⟨A, c, rfl, hc⟩ := ht1.shape
  have HT1 := Lib.hid ht1
  clear ho1 ht1
  go_wp2_with fail
  go_loopw [3, 4] (fun x y wr => WeRel w1 out x y wr) (fun _ y _ => out.length - (intOf y).toNat)
  case atStart => exact ⟨0, 0, rfl, rfl, by omega, by rw [List.take_zero]; rfl, Below.refl _ _⟩
  case round =>
    obtain ⟨i, x, rfl, rfl, hi, his, hbr⟩ := hrel
    by_cases hlt : i < out.length
    · obtain ⟨b, o, c', hv, _, hb, hcell⟩ := HT1.out.open_ (by omega)
      injection hv with hA _ hcc
      subst hA
      subst hcc
      obtain ⟨t, ht⟩ : ∃ t, out[i]? = some t := ⟨_, List.getElem?_eq_getElem hlt⟩
      obtain ⟨va, hat⟩ := hcell i t ht
      obtain ⟨A2, c2, rfl, _, _⟩ := id hat.at_
      have q0 : wr.cell? ⟨b, o + i * 4, none⟩ = some (.int .i64 t.kind) := (hbr.cell (p := ⟨b, o + i * 4, none⟩) hb).trans hat.c0
      have q2 : wr.cell? ⟨b, o + i * 4 + 2, none⟩ = some (.slice A2 t.attrs.length c2) := (hbr.cell (p := ⟨b, o + i * 4 + 2, none⟩) hb).trans hat.c2
      have htk : wtKs (out.take (i + 1)) = x + wtK t := by
        rw [List.take_add_one, ht, Option.toList_some, wtKs_append, ← his]
        simp [wtKs]
      have hz1 := wtKs_sz (out.take (i + 1))
      have hz2 := szKs_take out (i + 1)
      have hsm : x + wtK t ≤ 16800 := by omega
      have HTK := Lib.hid htk
      have hi4 : i + 1 ≤ out.length := hlt
      have i1 : (i : Int) < (out.length : Int) := by omega
      obtain ⟨kk, hkk⟩ : ∃ kk, t.kind = kk := ⟨_, rfl⟩
      obtain ⟨al, hal⟩ : ∃ al, t.attrs.length = al := ⟨_, rfl⟩
      have hwt : wtK t = if kk = 1 then 1 + al else if kk = 3 ∨ kk = 4 then 1 else 0 := by unfold wtK; rw [hkk, hal]
      rw [hwt] at HTK hsm
      rw [hkk] at q0
      rw [hal] at q2
      clear hcell hat ht htk hz1 hz2 hwt hkk hal his
      by_cases h1 : kk = 1
      · subst h1
        rw [if_pos rfl] at HTK hsm
        go_wp2_with fail
        go_roundw
        case rel => exact ⟨i + 1, x + (1 + al), by go_num, by go_num, hi4, HTK.out.symm, hbr⟩
        case measure => simp [intOf]; omega
      · rw [if_neg h1] at HTK hsm
        have B1 : (kk == 1) = false := by simp [h1]
        by_cases h3 : kk = 3 ∨ kk = 4
        · rw [if_pos h3] at HTK hsm
          rcases h3 with rfl | rfl
          all_goals
            clear B1 h1
            go_wp2_with fail
            go_roundw
          case rel => exact ⟨i + 1, x + 1, by go_num, by go_num, hi4, HTK.out.symm, hbr⟩
          case measure => simp [intOf]; omega
          case rel => exact ⟨i + 1, x + 1, by go_num, by go_num, hi4, HTK.out.symm, hbr⟩
          case measure => simp [intOf]; omega
        · rw [if_neg h3] at HTK hsm
          have B3 : (kk == 3) = false := by simp; omega
          have B4 : (kk == 4) = false := by simp; omega
          clear h1 h3
          go_wp2_with fail
          go_roundw
          case rel => exact ⟨i + 1, x, rfl, by go_num, hi4, by rw [HTK.out]; rfl, hbr⟩
          case measure => simp [intOf]; omega
    · have hke : i = out.length := by omega
      have hx : x = wtKs out := by rw [his, hke, List.take_length]
      have ht2 : TokAt (· < wr.heap.size) wr out (.slice A out.length c) := (HT1.out.stay hbr).mono fun b h => Nat.lt_of_lt_of_le h hbr.size
      have HT2 := Lib.hid (HTR out _ wr (HGB.below (below_after hb1 hbr)) ht2 hkw (by omega))
      have hz2 := tree_sz out
      have hle := tree_wt out
      rw [← hx] at hle
      have i1 : ¬ ((i : Int) < (out.length : Int)) := by omega
      clear his hx ht2
      go_wp2_with fail
      refine HT2.out.mono ?_
      rintro e w2 ⟨v2, rfl, ht2, hb2⟩
      have hc2 := below_after (below_after hb1 hbr) hb2
      have HW := Lib.hid (weightR_any (treeB out) (· < w2.heap.size) v2 w2 ht2 (fun b h => h) (by omega))
      obtain ⟨wt, hwt⟩ : ∃ n, wtL (treeB out) = n := ⟨_, rfl⟩
      rw [hwt] at HW hle
      clear ht2 hwt
      go_wp2_with fail
      refine HW.out.mono ?_
      rintro e w3 ⟨rfl, hb3⟩
      have hc3 := below_after hc2 hb3
      have i5 : (wt : Int) ≤ (x : Int) := by omega
      go_wp2_with fail
      refine (lives7_any HB _ (HGB.below hc3)).mono ?_
      rintro e w4 ⟨rfl, hb4⟩
      have hc4 := below_after hc3 hb4
      go_wp2_with fail
      go_ret
      exact ⟨rfl, hc4⟩

end Go.Proofs.Ytfdgmoakobjohaa

/- Part WrpM. -/
namespace Go.Proofs.Ytfdgmoakobjohaa
set_option linter.unusedVariables false

/-- A builder within an open element. -/
def wrapB (z : ByteArray) (s : Bst) : Bst := ⟨s.fs ++ [⟨z, [], s.out⟩], []⟩
theorem addTo_wrap (z : ByteArray) (s : Bst) (n : Nd) : addTo (wrapB z s) n = wrapB z (addTo s n) := by
  obtain ⟨fs, out⟩ := s
  cases fs <;> rfl
theorem pop_wrap (z : ByteArray) {s : Bst} (h : 0 < s.fs.length) : popB (wrapB z s) = wrapB z (popB s) := by
  obtain ⟨fs, out⟩ := s
  cases fs with
  | nil => cases h
  | cons f fs =>
    show addTo (wrapB z ⟨fs, out⟩) (nodeOf f) = wrapB z (addTo ⟨fs, out⟩ (nodeOf f))
    exact addTo_wrap z _ _
theorem addTo_len (s : Bst) (n : Nd) : (addTo s n).fs.length = s.fs.length := by
  obtain ⟨fs, out⟩ := s
  cases fs <;> rfl
theorem pop_len (s : Bst) : (popB s).fs.length = s.fs.length - 1 := by
  obtain ⟨fs, out⟩ := s
  cases fs with
  | nil => rfl
  | cons f fs => show (addTo ⟨fs, out⟩ (nodeOf f)).fs.length = _; rw [addTo_len]; rfl
theorem popN_wrap (z : ByteArray) : ∀ (n : Nat) (s : Bst), n ≤ s.fs.length → popN n (wrapB z s) = wrapB z (popN n s)
  | 0, s, _ => rfl
  | n + 1, s, h => by
    show popN n (popB (wrapB z s)) = wrapB z (popN n (popB s))
    rw [pop_wrap z (by omega)]
    exact popN_wrap z n _ (by rw [pop_len]; omega)
theorem tw_out {α : Type} {p : α → Bool} {x : α} (hx : p x = false) : ∀ l : List α, (l ++ [x]).takeWhile p = l.takeWhile p
  | [] => by simp [hx]
  | y :: l => by
    rw [List.cons_append, List.takeWhile_cons, List.takeWhile_cons, tw_out hx l]
theorem tw_in {α : Type} {p : α → Bool} (m : List α) : ∀ l : List α, l.all p = false → (l ++ m).takeWhile p = l.takeWhile p
  | [], h => by cases h
  | y :: l, h => by
    rw [List.cons_append, List.takeWhile_cons, List.takeWhile_cons]
    cases hy : p y with
    | false => rfl
    | true =>
      rw [List.all_cons, hy, Bool.true_and] at h
      rw [tw_in m l h]
theorem tw_len {α : Type} {p : α → Bool} : ∀ l : List α, l.all p = false → (l.takeWhile p).length < l.length
  | [], h => by cases h
  | y :: l, h => by
    rw [List.takeWhile_cons]
    cases hy : p y with
    | false => simp
    | true =>
      rw [List.all_cons, hy, Bool.true_and] at h
      have := tw_len l h
      simp
      exact this
theorem tw_le {α : Type} (p : α → Bool) : ∀ l : List α, (l.takeWhile p).length ≤ l.length
  | [] => Nat.le_refl _
  | y :: l => by
    rw [List.takeWhile_cons]
    split
    · have := tw_le p l
      simp
      exact this
    · simp
theorem tw_all {α : Type} {p : α → Bool} : ∀ l : List α, l.all p = true → l.takeWhile p = l
  | [], _ => rfl
  | y :: l, h => by
    rw [List.all_cons, Bool.and_eq_true] at h
    rw [List.takeWhile_cons, if_pos h.1, tw_all l h.2]

theorem wrap_put {z : ByteArray} (hz : ∀ b, closesB z.data.toList b = false) {s : Bst} {k : Tk} (hk : k.name ≠ z) : putB (wrapB z s) k = wrapB z (putB s k) := by
  unfold putB
  split
  · have e : ((wrapB z s).fs.takeWhile (shutBy k.name.data.toList)) = s.fs.takeWhile (shutBy k.name.data.toList) := tw_out (p := shutBy k.name.data.toList) (x := ⟨z, [], s.out⟩) (hz _) s.fs
    rw [e]
    dsimp only
    rw [popN_wrap z _ s (tw_le _ _)]
    split
    · exact addTo_wrap z _ _
    · rfl
  · split
    · have hn : notNamed k.name ⟨z, [], s.out⟩ = true := by
        unfold notNamed
        simp
        exact fun e => hk e.symm
      have e : (wrapB z s).fs.all (notNamed k.name) = s.fs.all (notNamed k.name) := by
        show (s.fs ++ [(⟨z, [], s.out⟩ : Fr)]).all _ = _
        rw [List.all_append]
        simp [hn]
      rw [e]
      split
      · rfl
      · rename_i h
        have h' : s.fs.all (notNamed k.name) = false := by simpa using h
        have e2 : ((wrapB z s).fs.takeWhile (notNamed k.name)) = s.fs.takeWhile (notNamed k.name) := tw_in _ s.fs h'
        rw [e2]
        exact popN_wrap z _ s (by have := tw_len s.fs h'; omega)
    · split
      · exact addTo_wrap z _ _
      · split
        · exact addTo_wrap z _ _
        · rfl
theorem wrap_puts {z : ByteArray} (hz : ∀ b, closesB z.data.toList b = false) : ∀ (l : List Tk) (s : Bst), (∀ k ∈ l, k.name ≠ z) → l.foldl putB (wrapB z s) = wrapB z (l.foldl putB s)
  | [], s, _ => rfl
  | k :: l, s, h => by
    rw [List.foldl_cons, List.foldl_cons, wrap_put hz (h k (by simp)), wrap_puts hz l _ fun x hx => h x (by simp [hx])]

/-- No open element has the name. -/
def noName (z : ByteArray) (s : Bst) : Prop := ∀ f ∈ s.fs, f.name ≠ z
theorem noName_names {z : ByteArray} {s s' : Bst} (h : noName z s) (he : ∀ nm ∈ s'.fs.map Fr.name, nm ∈ s.fs.map Fr.name) : noName z s' := by
  intro f hf e
  obtain ⟨g, hg, hge⟩ := List.mem_map.1 (he f.name (List.mem_map.2 ⟨f, hf, rfl⟩))
  exact h g hg (hge.trans e)
theorem noName_add {z : ByteArray} {s : Bst} (n : Nd) (h : noName z s) : noName z (addTo s n) := noName_names h fun nm hn => by rwa [addTo_names] at hn
theorem noName_pop {z : ByteArray} {s : Bst} (n : Nat) (h : noName z s) : noName z (popN n s) := noName_names h fun nm hn => by rw [popN_names] at hn; exact List.mem_of_mem_drop hn
theorem noName_put {z : ByteArray} {s : Bst} {k : Tk} (h : noName z s) (hk : k.name ≠ z) : noName z (putB s k) := by
  unfold putB
  split
  · dsimp only
    split
    · exact noName_add _ (noName_pop _ h)
    · intro f hf
      rcases List.mem_cons.1 hf with rfl | hf
      · exact hk
      · exact noName_pop _ h f hf
  · split
    · split
      · exact h
      · exact noName_pop _ h
    · split
      · exact noName_add _ h
      · split
        · exact noName_add _ h
        · exact h
theorem noName_puts {z : ByteArray} : ∀ (l : List Tk) (s : Bst), noName z s → (∀ k ∈ l, k.name ≠ z) → noName z (l.foldl putB s)
  | [], s, h, _ => h
  | k :: l, s, h, hk => noName_puts l _ (noName_put h (hk k (by simp))) fun x hx => hk x (by simp [hx])

/-- Tokens within an element that nothing closes, and a text behind it. -/
theorem tree_wraps {z t : ByteArray} (hv : voidB z.data.toList = false) (hz : ∀ b, closesB z.data.toList b = false) (ht : t.data.toList ≠ []) (own : List Tk) (ho : ∀ k ∈ own, k.name ≠ z) (b e c : Tk)
    (hb : b.kind = 1 ∧ b.name = z ∧ b.attrs = []) (he : e.kind = 2 ∧ e.name = z) (hc : c.kind = 3 ∧ c.text = t) :
    treeB (b :: own ++ [e, c]) = [.mk 1 z [] (tB []) (treeB own), .mk 2 (tB []) [] t []] := by
  obtain ⟨b1, b2, b3⟩ := hb
  obtain ⟨e1, e2⟩ := he
  obtain ⟨c1, c2⟩ := hc
  have h1 : putB ⟨[], []⟩ b = wrapB z ⟨[], []⟩ := by
    unfold putB
    rw [if_pos b1, b2, b3]
    dsimp only
    rw [hv, if_neg (by decide)]
    rfl
  obtain ⟨s, hs⟩ : ∃ s, own.foldl putB ⟨[], []⟩ = s := ⟨_, rfl⟩
  have hn : noName z s := by rw [← hs]; exact noName_puts own _ (fun f hf => by cases hf) ho
  have h2 : own.foldl putB (wrapB z ⟨[], []⟩) = wrapB z s := by rw [wrap_puts hz own _ ho, hs]
  have hall : s.fs.all (notNamed z) = true := by
    rw [List.all_eq_true]
    intro f hf
    unfold notNamed
    simp
    exact hn f hf
  have h3 : putB (wrapB z s) e = ⟨[], [.mk 1 z [] (tB []) (nodesB s)]⟩ := by
    unfold putB
    rw [if_neg (by rw [e1]; decide), if_pos e1, e2]
    have hx : notNamed z ⟨z, [], s.out⟩ = false := by simp [notNamed]
    have ha : (wrapB z s).fs.all (notNamed z) = false := by
      show (s.fs ++ [(⟨z, [], s.out⟩ : Fr)]).all _ = _
      rw [List.all_append]
      simp [hx]
    have htw : (wrapB z s).fs.takeWhile (notNamed z) = s.fs := (tw_out (p := notNamed z) hx s.fs).trans (tw_all s.fs hall)
    rw [ha, if_neg (by decide), htw]
    have key : ∀ (n : Nat) (u : Bst), popN (n + 1) u = popB (popN n u) := by
      intro n
      induction n with
      | zero => intro u; rfl
      | succ n ih => intro u; exact ih (popB u)
    rw [key, popN_wrap z _ s (Nat.le_refl _)]
    have hl : (popN s.fs.length s).fs = [] := by
      have h := popN_names s.fs.length s
      have h0 : (List.map Fr.name s.fs).drop s.fs.length = [] := by
        rw [List.drop_eq_nil_iff]
        simp
      rw [h0] at h
      exact List.map_eq_nil_iff.1 h
    unfold nodesB
    generalize popN s.fs.length s = u at hl ⊢
    obtain ⟨fs, out⟩ := u
    have hl' : fs = [] := hl
    subst hl'
    rfl
  unfold treeB
  rw [List.cons_append, List.foldl_cons, h1, List.foldl_append, h2, hs, List.foldl_cons, h3, List.foldl_cons, List.foldl_nil]
  have h4 : putB ⟨[], [.mk 1 z [] (tB []) (nodesB s)]⟩ c = ⟨[], [.mk 1 z [] (tB []) (nodesB s), .mk 2 (tB []) [] t []]⟩ := by
    unfold putB
    rw [if_neg (by rw [c1]; decide), if_neg (by rw [c1]; decide), if_pos c1, c2]
    show (⟨[], mstep [.mk 1 z [] (tB []) (nodesB s)] (textN t)⟩ : Bst) = _
    rw [mstep_app (n := textN t) (fun _ => ⟨ht, rfl⟩)]
    rfl
  rw [h4]
  rfl

end Go.Proofs.Ytfdgmoakobjohaa

/- Part TreeJ. -/
namespace Go.Proofs.Ytfdgmoakobjohaa
open Go.RowKit
set_option linter.unusedVariables false

theorem add_addr (b o j : Nat) : (⟨b, o, none⟩ : Addr).add j = ⟨b, o + j, none⟩ := by
  unfold Addr.add
  split
  · rename_i h0; subst h0; rfl
  · rfl

theorem run_append_zero {w : World} (base : Nat) (t ty e : TypeId) (i : TypeInfo) (size : Nat) (ht : Try.prog.underlying t = some (.slice e)) (hi : Try.prog.info? e = some i)
    (v : Value) (n : Nat) (xs : List Value) (hown : w.ownsRow base e size v n xs) (A : Option Addr) (c : Nat) :
    (Builtin.append_ #[t, t] ty #[v, .slice A 0 c]).run Try.prog w = .ok v w := by
  rcases hown.2 with ⟨rfl, rfl⟩ | ⟨g, cap, cur, rfl, _, _, hnc, _⟩
  · cases A <;> simp [Builtin.append_, run_underlying ht, sizeOf, typeInfo, hi, Builtin.lenOf, Builtin.firstCells, loadCells, loadCellsFrom]
  · cases A <;> simp [Builtin.append_, run_underlying ht, sizeOf, typeInfo, hi, Builtin.lenOf, Builtin.firstCells, hnc, storeCells, loadCells, loadCellsFrom]

/-- A list more. -/
theorem wpList_append_tree {w : World} {ops : Array Oper} {rest : List Oper} {o : Oper} {a : Act} {Q : Exit → Act → World → Prop} (hgd : o.guard = none) (s x : Operand)
    (ho : o.op = .call { callee := .builtin .append, args := #[s, x], argTypes := #[24, 24] })
    (base lo : Nat) (l : List Nd) (v : Value) (hs : a.eval s = v) (h : OwnC w base lo l v) (m : List Nd) (vx : Value) (hx : a.eval x = vx) (hm : Tree (Sub lo w v) w m vx)
    (hlen : l.length + m.length ≤ 1000000) (hbase : base ≤ w.heap.size)
    (hK : ∀ v' w', OwnC w' base lo (l ++ m) v' → w.grownBy w' v.ownBlock → wpList Try.prog ops Q rest (a.put o.dst v') w') :
    wpList Try.prog ops Q (o :: rest) a w := by
  refine wpList_plain hgd fun K hK' => ?_
  obtain ⟨i0, hi, hz0, hz1, hz2⟩ := info_parts info_node
  obtain ⟨R, rfl, hown, hat0, hk0, hn⟩ := id h
  rw [List.length_map] at hlen
  cases hm with
  | mk M _ A c hl hc hcell hat hkids =>
    subst hl
    by_cases h0 : M = []
    · subst h0
      have hrun := run_append_zero (w := w) base 24 o.type 37 i0 5 Try.underlying24 hi v R.length (ncells R) hown A c
      have hx' : a.eval x = .slice A 0 c := hx
      unfold Oper.wp
      simp [execOp, ho, resolve, invoke, builtin, hs, hx', hrun, Result.andThen]
      refine hK' _ _ (hK v w ?_ ⟨rfl, rfl, rfl, Nat.le_refl _, fun _ _ _ => rfl⟩)
      simpa using h
    · have hM : 0 < M.length := List.length_pos_iff.2 h0
      obtain ⟨b, o', rfl, hS, hcl⟩ := hcell (by rw [ncells_length]; omega)
      have h1 : ∀ u ∈ ncells M, u.oneCell' = true := by
        intro u hu
        rw [ncells, List.mem_flatMap] at hu
        obtain ⟨r, hr, hu⟩ := hu
        obtain ⟨A1, c1, hva, _⟩ := hat r hr
        obtain ⟨A2, c2, hvk, _⟩ := (hkids r hr).shape
        simp only [ncells1, List.mem_cons, List.not_mem_nil, or_false] at hu
        rcases hu with rfl | rfl | rfl | rfl | rfl
        · rfl
        · rfl
        · rw [hva]; rfl
        · rfl
        · rw [hvk]; rfl
      have hx' : a.eval x = .slice (some ⟨b, o', none⟩) M.length c := by rw [hx, List.length_map]
      rw [List.length_map] at hlen
      obtain ⟨v', w', hrun, own', hgr, hnew⟩ := run_append_new (w := w) base 24 o.type 37 i0 _ 5 88 Try.underlying24 hi hz0 hz1 hz2 rfl (by decide) v R.length (ncells R) hown ⟨b, o', none⟩ M.length c (ncells M) (ncells_length M)
        (fun j u hj => by have h9 := hcl j u hj; rw [add_addr]; exact h9) h1 (by unfold maxLen; omega) (by omega) hbase
      unfold Oper.wp
      simp [execOp, ho, resolve, invoke, builtin, hs, hx', hrun, Result.andThen]
      have hSS : ∀ b, Sub lo w v b → Sub lo w' v' b := by
        intro b hb
        refine ⟨hb.1, Nat.lt_of_lt_of_le hb.2.1 hgr.size, ?_⟩
        rcases hnew with e | e
        · rw [e]; exact hb.2.2
        · intro hg
          have := e b hg
          have := hb.2.1
          omega
      have kp : Kept (Sub lo w v) w w' := Kept.grown hgr fun b hb => ⟨hb.2.1, fun e => hb.2.2 e.symm⟩
      refine hK' _ _ (hK v' w' ⟨R ++ M, by simp, ?_, ?_, ?_, fun g hg hs => hs.2.2 hg⟩ hgr)
      · rw [List.length_append, ncells_append]
        exact own'
      · intro q hq
        rcases List.mem_append.1 hq with hq | hq
        · exact ((hat0 q hq).keep kp).mono hSS
        · exact ((hat q hq).keep kp).mono hSS
      · intro q hq
        rcases List.mem_append.1 hq with hq | hq
        · exact ((hk0 q hq).keep kp).mono hSS
        · exact ((hkids q hq).keep kp).mono hSS

/-- One node of a list, as a list. -/
theorem cut_one (W : World) (b o n c k : Nat) (hk : k < n) (hc : n ≤ c) :
    (Instr.slice 24 (.slice (some ⟨b, o, none⟩) n c) (some (.int .i64 (k : Int))) (some (.int .i64 ((k : Int) + 1))) none).run Try.prog W = .ok (.slice (some ⟨b, o + k * 5, none⟩) 1 (c - k)) W := by
  have he : Try.prog.elem 24 = 37 := by kernel_rfl
  rw [run_slice_lh W 24 (some ⟨b, o, none⟩) n c (by rw [he]; exact Try.underlying24) .i64 .i64 (k : Int) ((k : Int) + 1) (by omega) (by omega) (by omega)]
  rw [he, Try.sizeOf37]
  have e1 : ((k : Int) + 1).toNat = k + 1 := by omega
  simp only [Result.andThen, sliced, Int.toNat_natCast, e1]
  rw [if_neg (by omega), show k + 1 - k = 1 by omega, Option.map_some, add_addr]

theorem Tree.one {S : Nat → Prop} {w : World} {l : List Nd} {b o n c : Nat} (h : Tree S w l (.slice (some ⟨b, o, none⟩) n c)) {k : Nat} {m : Nd} (hm : l[k]? = some m) :
    Tree S w [m] (.slice (some ⟨b, o + k * 5, none⟩) 1 (c - k)) := by
  cases h with
  | mk R l A c hl hc hcell hat hkids =>
    subst hl
    have hk : k < (R.map Rn.n).length := (List.getElem?_eq_some_iff.1 hm).1
    rw [List.getElem?_map] at hm
    cases hr : R[k]? with
    | none => rw [hr] at hm; cases hm
    | some r =>
      rw [hr] at hm
      injection hm with hm
      subst hm
      obtain ⟨b', o', hA, hS, hcl⟩ := hcell (by rw [ncells_length]; rw [List.length_map] at hk; omega)
      injection hA with hA
      injection hA with h1 h2
      subst h1
      subst h2
      have hmem := List.mem_of_getElem? hr
      have ha := ncells_at hr
      refine Tree.mk [r] [r.n] (some ⟨b, o + k * 5, none⟩) (c - k) rfl (by simp; omega) ?_ (fun q hq => by simp at hq; subst hq; exact hat _ hmem) (fun q hq => by simp at hq; subst hq; exact hkids _ hmem)
      intro _
      refine ⟨b, o + k * 5, rfl, hS, fun j u hj => ?_⟩
      rw [show ncells [r] = ncells1 r by simp [ncells]] at hj
      rw [Nat.add_assoc]
      apply hcl
      match j, hj with
      | 0, hj => simp [ncells1] at hj; subst hj; exact ha.1
      | 1, hj => simp [ncells1] at hj; subst hj; exact ha.2.1
      | 2, hj => simp [ncells1] at hj; subst hj; exact ha.2.2.1
      | 3, hj => simp [ncells1] at hj; subst hj; exact ha.2.2.2.1
      | 4, hj => simp [ncells1] at hj; subst hj; exact ha.2.2.2.2
      | j + 5, hj => simp [ncells1] at hj

end Go.Proofs.Ytfdgmoakobjohaa

/- Part TokL. -/
namespace Go.Proofs.Ytfdgmoakobjohaa
open Go.RowKit
set_option linter.unusedVariables false

/-- A list of tokens of the call's own, its row at block base and beyond, what hangs on it at lo and beyond. -/
def OwnB (w : World) (base lo : Nat) (l : List Tk) (v : Value) : Prop :=
  ∃ R : List (Tk × Value), R.map (·.1) = l ∧ w.ownsRow base 34 4 v R.length (tcells R) ∧ ∀ r ∈ R, AttrsAt (Sub lo w v) w r.1.attrs r.2
theorem OwnB.nil (w : World) (base lo : Nat) : OwnB w base lo [] (.slice none 0 0) := ⟨[], rfl, World.ownsRow_nil _ _ _ _, by simp⟩
theorem OwnB.shape {w : World} {base lo : Nat} {l : List Tk} {v : Value} (h : OwnB w base lo l v) : ∃ A c, v = .slice A l.length c ∧ l.length ≤ c := by
  obtain ⟨R, rfl, hown, _⟩ := h
  rw [List.length_map]
  exact own_size hown
theorem OwnB.lt {w : World} {base lo : Nat} {l : List Tk} {v : Value} (h : OwnB w base lo l v) : ∀ g, v.ownBlock = some g → base ≤ g ∧ g < w.heap.size := by
  obtain ⟨R, rfl, hown, _⟩ := h
  exact fun g hg => hown.lt g hg
theorem OwnB.later {w w' : World} {base lo : Nat} {l : List Tk} {v : Value} (h : OwnB w base lo l v) (hb : Below w.heap.size w w') : OwnB w' base lo l v := by
  obtain ⟨R, hl, hown, hat⟩ := h
  exact ⟨R, hl, own_below hown hb, fun r hr => ((hat r hr).keep (Kept.below hb fun b hs => hs.2.1)).mono fun b hs => ⟨hs.1, Nat.lt_of_lt_of_le hs.2.1 hb.size, hs.2.2⟩⟩
/-- They lie there, for another list v' of the call's own that lies beyond them. -/
theorem OwnB.aside {w : World} {base lo : Nat} {l : List Tk} {v : Value} {S : Nat → Prop} (h : OwnB w base lo l v) (hlo : lo ≤ base) (hS : ∀ b, lo ≤ b → b < w.heap.size → S b) : TokAt S w l v := by
  obtain ⟨R, rfl, hown, hat⟩ := h
  obtain ⟨A, c, rfl, hc⟩ := own_size hown
  refine ⟨R, A, c, rfl, by rw [List.length_map], by rw [List.length_map]; exact hc, (Cells.own hown).mono fun b hb => ?_, fun r hr => (hat r hr).mono fun b hb => hS b hb.1 hb.2.1⟩
  have := hown.lt b hb
  exact hS b (by omega) this.2

/-- A list of tokens more. -/
theorem wpList_append_toks {w : World} {ops : Array Oper} {rest : List Oper} {o : Oper} {a : Act} {Q : Exit → Act → World → Prop} (hgd : o.guard = none) (s x : Operand)
    (ho : o.op = .call { callee := .builtin .append, args := #[s, x], argTypes := #[22, 22] })
    (base lo : Nat) (l : List Tk) (v : Value) (hs : a.eval s = v) (h : OwnB w base lo l v) (m : List Tk) (vx : Value) (hx : a.eval x = vx) (hm : TokAt (Sub lo w v) w m vx)
    (hlen : l.length + m.length ≤ 1000000) (hbase : base ≤ w.heap.size)
    (hK : ∀ v' w', OwnB w' base lo (l ++ m) v' → w.grownBy w' v.ownBlock → wpList Try.prog ops Q rest (a.put o.dst v') w') :
    wpList Try.prog ops Q (o :: rest) a w := by
  refine wpList_plain hgd fun K hK' => ?_
  obtain ⟨i0, hi, hz0, hz1, hz2⟩ := info_parts info_tok
  obtain ⟨R, rfl, hown, hat0⟩ := id h
  rw [List.length_map] at hlen
  obtain ⟨M, A, c, rfl, rfl, hc, hcell, hat⟩ := hm
  by_cases h0 : M = []
  · subst h0
    have hrun := run_append_zero (w := w) base 22 o.type 34 i0 4 Try.underlying22 hi v R.length (tcells R) hown A c
    have hx' : a.eval x = .slice A 0 c := hx
    unfold Oper.wp
    simp [execOp, ho, resolve, invoke, builtin, hs, hx', hrun, Result.andThen]
    refine hK' _ _ (hK v w ?_ ⟨rfl, rfl, rfl, Nat.le_refl _, fun _ _ _ => rfl⟩)
    simpa using h
  · have hM : 0 < M.length := List.length_pos_iff.2 h0
    obtain ⟨b, o', rfl, hS, hcl⟩ := hcell (by rw [tcells_length]; omega)
    have h1 : ∀ u ∈ tcells M, u.oneCell' = true := by
      intro u hu
      rw [tcells, List.mem_flatMap] at hu
      obtain ⟨r, hr, hu⟩ := hu
      obtain ⟨A1, c1, hva, _⟩ := hat r hr
      simp only [tcells1, List.mem_cons, List.not_mem_nil, or_false] at hu
      rcases hu with rfl | rfl | rfl | rfl
      · rfl
      · rfl
      · rw [hva]; rfl
      · rfl
    have hx' : a.eval x = .slice (some ⟨b, o', none⟩) M.length c := by rw [hx, List.length_map]
    rw [List.length_map] at hlen
    obtain ⟨v', w', hrun, own', hgr, hnew⟩ := run_append_new (w := w) base 22 o.type 34 i0 _ 4 64 Try.underlying22 hi hz0 hz1 hz2 rfl (by decide) v R.length (tcells R) hown ⟨b, o', none⟩ M.length c (tcells M) (tcells_length M)
      (fun j u hj => by have h9 := hcl j u hj; rw [add_addr]; exact h9) h1 (by unfold maxLen; omega) (by omega) hbase
    unfold Oper.wp
    simp [execOp, ho, resolve, invoke, builtin, hs, hx', hrun, Result.andThen]
    have hSS : ∀ b, Sub lo w v b → Sub lo w' v' b := by
      intro b hb
      refine ⟨hb.1, Nat.lt_of_lt_of_le hb.2.1 hgr.size, ?_⟩
      rcases hnew with e | e
      · rw [e]; exact hb.2.2
      · intro hg
        have := e b hg
        have := hb.2.1
        omega
    have kp : Kept (Sub lo w v) w w' := Kept.grown hgr fun b hb => ⟨hb.2.1, fun e => hb.2.2 e.symm⟩
    refine hK' _ _ (hK v' w' ⟨R ++ M, by simp, ?_, ?_⟩ hgr)
    · rw [List.length_append, tcells_append]
      exact own'
    · intro q hq
      rcases List.mem_append.1 hq with hq | hq
      · exact ((hat0 q hq).keep kp).mono hSS
      · exact ((hat q hq).keep kp).mono hSS

/-- One token more. -/
theorem wpList_append_tokB {w : World} {ops : Array Oper} {rest : List Oper} {o : Oper} {a : Act} {Q : Exit → Act → World → Prop} (hgd : o.guard = none) (s x : Operand)
    (ho : o.op = .call { callee := .builtin .append, args := #[s, x], argTypes := #[22, 22] })
    (base lo : Nat) (l : List Tk) (v : Value) (hs : a.eval s = v) (h : OwnB w base lo l v) (k : Tk) (va : Value) (b : Nat) (hx : a.eval x = .slice (some ⟨b, 0, none⟩) 1 1)
    (hb : w.heap[b]? = some (.cells #[.int .i64 k.kind, .string k.name, va, .string k.text] 34 (0, 0))) (hS : Sub lo w v b) (hat : AttrsAt (Sub lo w v) w k.attrs va)
    (hlen : l.length ≤ 999999) (hbase : base ≤ w.heap.size)
    (hK : ∀ v' w', OwnB w' base lo (l ++ [k]) v' → w.grownBy w' v.ownBlock → wpList Try.prog ops Q rest (a.put o.dst v') w') :
    wpList Try.prog ops Q (o :: rest) a w :=
  wpList_append_toks hgd s x ho base lo l v hs h [k] _ hx ⟨[(k, va)], some ⟨b, 0, none⟩, 1, rfl, rfl, Nat.le_refl _, cells_here hb hS _ rfl, fun r hr => by simp at hr; subst hr; exact hat⟩ (by show l.length + 1 ≤ _; omega) hbase hK

end Go.Proofs.Ytfdgmoakobjohaa
