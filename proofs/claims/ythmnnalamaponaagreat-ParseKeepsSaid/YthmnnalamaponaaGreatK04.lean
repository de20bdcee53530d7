/- Parts of the proof, in build order: TokT BldM StdM EndM. -/
import Derived.Test.YthmnnalamaponaaGreatK03

/- Part TokT. -/
namespace Go.Proofs.YthmnnalamaponaaGreat
set_option linter.unusedVariables false
set_option linter.unusedSimpArgs false

/-- A token of one of the four kinds, as it should be. -/
def tkOK (k : Tk) : Prop :=
  (k.kind = 1 ∧ namedB k.name.data.toList = true ∧ attrsOK k.attrs ∧ k.text.data.toList = []) ∨
  (k.kind = 2 ∧ namedB k.name.data.toList = true ∧ k.attrs = [] ∧ k.text.data.toList = []) ∨
  (k.kind = 3 ∧ k.name.data.toList = [] ∧ k.attrs = [] ∧ k.text.data.toList ≠ [] ∧ isB k.text.data.toList = true) ∨
  (k.kind = 4 ∧ k.name.data.toList = [] ∧ k.attrs = [] ∧ isB k.text.data.toList = true ∧ noEnd k.text.data.toList = true)
/-- What may stand behind a raw element's beginning: its text, if any, and its end, if any. -/
def rawNext (nm : List UInt8) (l : List Tk) : Prop :=
  l = [] ∨ (∃ l', l = tkE nm :: l') ∨ (∃ t l', l = tkC t :: l' ∧ rawOK nm t = true ∧ (l' = [] ∨ ∃ l'', l' = tkE nm :: l''))
def seqOK : List Tk → Prop
  | [] => True
  | k :: l => tkOK k ∧ (rawTk k = true → rawNext k.name.data.toList l) ∧ seqOK l

theorem ok_begin {nm : List UInt8} {ats : List (ByteArray × ByteArray)} (h : namedB nm = true) (ha : attrsOK ats) : tkOK (tkB nm ats) := .inl ⟨rfl, by show namedB (tB nm).data.toList = true; rw [tB_list]; exact h, ha, tB_list _⟩
theorem ok_end {nm : List UInt8} (h : namedB nm = true) : tkOK (tkE nm) := .inr (.inl ⟨rfl, by show namedB (tB nm).data.toList = true; rw [tB_list]; exact h, rfl, tB_list _⟩)
theorem ok_chars {t : List UInt8} (h : t ≠ []) (hr : isB t = true) : tkOK (tkC t) := .inr (.inr (.inl ⟨rfl, tB_list _, rfl, by show (tB t).data.toList ≠ []; rw [tB_list]; exact h, by show isB (tB t).data.toList = true; rw [tB_list]; exact hr⟩))
theorem ok_remark {t : List UInt8} (h : noEnd t = true) (hr : isB t = true) : tkOK (tkR t) := .inr (.inr (.inr ⟨rfl, tB_list _, rfl, by show isB (tB t).data.toList = true; rw [tB_list]; exact hr, by show noEnd (tB t).data.toList = true; rw [tB_list]; exact h⟩))

theorem name_ok {c : UInt8} {r : List UInt8} (h : letC c = true) : namedB (((c :: r).takeWhile tagC).map lowB) = true := by
  rw [List.takeWhile_cons, if_pos (let_tag h), List.map_cons]
  unfold namedB
  rw [Bool.and_eq_true, smC_of h, List.all_eq_true]
  refine ⟨rfl, fun x hx => ?_⟩
  rcases List.mem_cons.1 hx with rfl | hx
  · exact namC_of (let_tag h)
  · obtain ⟨y, hy, rfl⟩ := List.mem_map.1 hx
    exact namC_of (mem_take hy)
theorem slashB_ok {l : List UInt8} (hl : isB l = true) : isB (slashB l).2 = true ∧ ∀ k, (slashB l).1 = some k → tkOK k := by
  cases l with
  | nil =>
    refine ⟨rfl, fun k hk => ?_⟩
    have hk' : some (tkR []) = some k := hk
    injection hk' with hk'
    subst hk'
    exact ok_remark rfl rfl
  | cons d r =>
    rw [slashB_cons]
    have h1 := upTo1_ok hl
    split
    · rename_i h
      subst h
      exact ⟨rt_tail hl (by decide), fun k hk => by cases hk⟩
    · split
      · rename_i hd
        split
        · refine ⟨h1.2.1, fun k hk => ?_⟩
          injection hk with hk
          subst hk
          exact ok_end (name_ok hd)
        · exact ⟨rfl, fun k hk => by cases hk⟩
      · refine ⟨h1.2.1, fun k hk => ?_⟩
        injection hk with hk
        subst hk
        exact ok_remark h1.2.2 h1.1
theorem tagB_ok {l : List UInt8} (hl : isB l = true) (h : startsB l = true) : isB (tagB l).2 = true ∧ ∀ k, (tagB l).1 = some k → tkOK k := by
  obtain ⟨c, r, rfl, hc⟩ := starts_form h
  have hcr := rt_tail hl (by decide)
  cases hlc : letC c with
  | true =>
    rw [tagB_letter hlc]
    cases ha : attsOf [] ((c :: r).dropWhile tagC) with
    | none => exact ⟨rfl, fun k hk => by cases hk⟩
    | some x =>
      have h1 := attsOf_ok _ _ [] x (Nat.le_refl _) (rt_skip tagC_low hcr) ⟨by simp, List.Pairwise.nil⟩ ha
      refine ⟨h1.2, fun k hk => ?_⟩
      injection hk with hk
      subst hk
      exact ok_begin (name_ok hlc) h1.1
  | false =>
    have hca : c.toNat < 128 := by
      rcases hc with h' | h' | h' | h'
      · rw [hlc] at h'; cases h'
      all_goals subst h'; decide
    have hr := rt_tail hcr hca
    cases hp : Lib.hasPrefix (c :: r) [33, 45, 45] with
    | true =>
      obtain ⟨t, ht⟩ := pre_form3 hp
      injection ht with h1 h2
      subst h1
      subst h2
      rw [tagB_remark]
      have ht := rt_tail (rt_tail hr (by decide)) (by decide)
      have h3 := upTo3_rt ht
      refine ⟨h3.2, fun k hk => ?_⟩
      injection hk with hk
      subst hk
      exact ok_remark (upTo3_noEnd t) h3.1
    | false =>
      by_cases h4 : c = 47
      · subst h4
        rw [tagB_slash]
        exact slashB_ok hr
      · rw [tagB_other hlc hp h4]
        have h1 := upTo1_ok hr
        refine ⟨h1.2.1, fun k hk => ?_⟩
        injection hk with hk
        subst hk
        exact ok_remark h1.2.2 h1.1

theorem let_inv {x : UInt8} (h : smC (lowB x) = true) : letC x = true := by
  have h1 := lowB_toNat x
  unfold smC at h
  unfold letC
  simp at h ⊢
  split at h1 <;> omega
theorem tag_inv {x : UInt8} (h : namC (lowB x) = true) : tagC x = true := by
  have h1 := lowB_toNat x
  unfold namC smC at h
  unfold tagC letC
  simp at h ⊢
  split at h1 <;> omega
theorem tok_end {nm l : List UInt8} (hn : namedB nm = true) (h : endAt nm l = true) : tokB l = [] ∨ ∃ l', tokB l = tkE nm :: l' := by
  obtain ⟨nm', d, r, rfl, hm, hd⟩ := end_form h
  obtain ⟨c, t, hct, hs, hall⟩ := named_form hn
  have hd' : tagC d = false := by
    rcases hd with hd | rfl | rfl
    · cases ht : tagC d with
      | false => rfl
      | true =>
        unfold blC at hd
        unfold tagC letC at ht
        simp at hd ht
        omega
    · decide
    · decide
  have htw := take_stop (p := tagC) (a := nm') (d := d) (X := r) (fun x hx => tag_inv (hall _ (by rw [← hm]; exact List.mem_map_of_mem hx))) hd'
  obtain ⟨x, u, hxu⟩ : ∃ x u, nm' = x :: u := by
    cases nm' with
    | nil => rw [← hm] at hct; cases hct
    | cons x u => exact ⟨x, u, rfl⟩
  have hx : letC x = true := by
    rw [hxu, List.map_cons, hct] at hm
    injection hm with h1 _
    exact let_inv (by rw [h1]; exact hs)
  have hx62 : x ≠ 62 := fun e => by subst e; cases hx
  have hst : startsB (60 :: 47 :: (nm' ++ d :: r)) = true := rfl
  have htg : tagB (60 :: 47 :: (nm' ++ d :: r)) = if 62 ∈ nm' ++ d :: r then (some (tkE nm), (upTo1 (nm' ++ d :: r)).2) else (none, []) := by
    rw [tagB_slash]
    rw [hxu] at htw hm ⊢
    rw [List.cons_append] at htw ⊢
    rw [slashB_cons, if_neg hx62, if_pos hx, htw.1, hm]
  by_cases h62 : 62 ∈ nm' ++ d :: r
  · rw [if_pos h62] at htg
    exact .inr ⟨_, by rw [tokB_tag (k := tkE nm) hst (by rw [htg]) rfl]⟩
  · rw [if_neg h62] at htg
    exact .inl (by rw [tokB_none hst (by rw [htg]), htg, tokB_nil])

theorem tok_seq : ∀ (n : Nat) (l : List UInt8), l.length ≤ n → isB l = true → seqOK (tokB l)
  | n, [], _, _ => by rw [tokB_nil]; trivial
  | 0, c :: r, hn, _ => by simp at hn
  | n + 1, c :: r, hn, hl => by
    cases hst : startsB (c :: r) with
    | false =>
      rw [tokB_chars hst]
      have h1 := charsB_less hst
      have h2 := charsB_rt hl
      refine ⟨ok_chars (dec_ne ?_) (rt_dec h2.1), (fun h => by cases h), tok_seq n _ (by omega) h2.2⟩
      rw [charsB_cons, if_neg (by rw [hst]; decide)]
      simp
    | true =>
      have h1 := tagB_len hst
      have h2 := tagB_ok hl hst
      cases ht : (tagB (c :: r)).1 with
      | none =>
        rw [tokB_none hst ht]
        exact tok_seq n _ (by omega) h2.1
      | some k =>
        have hk := h2.2 k ht
        cases hr : rawTk k with
        | false =>
          rw [tokB_tag hst ht hr]
          exact ⟨hk, (fun h => by rw [hr] at h; cases h), tok_seq n _ (by omega) h2.1⟩
        | true =>
          rw [tokB_raw hst ht hr]
          have hnm : namedB k.name.data.toList = true := by
            unfold rawTk at hr
            rw [Bool.and_eq_true, decide_eq_true_eq] at hr
            rcases hk with h | h | h | h
            · exact h.2.1
            all_goals (have := h.1; omega)
          have hrt := cutEnd_rt (nm := k.name.data.toList) h2.1
          have hlen := cutEnd_len k.name.data.toList (tagB (c :: r)).2
          have hok := cutEnd_rawOK k.name.data.toList (tagB (c :: r)).2
          have hend : tokB (cutEnd k.name.data.toList (tagB (c :: r)).2).2 = [] ∨ ∃ l', tokB (cutEnd k.name.data.toList (tagB (c :: r)).2).2 = tkE k.name.data.toList :: l' := by
            rcases cutEnd_form k.name.data.toList (tagB (c :: r)).2 with h | h
            · rw [h, tokB_nil]; exact .inl rfl
            · exact tok_end hnm h
          have hseq := tok_seq n (cutEnd k.name.data.toList (tagB (c :: r)).2).2 (by omega) hrt.2
          obtain ⟨e1, he1⟩ : ∃ e, (cutEnd k.name.data.toList (tagB (c :: r)).2).1 = e := ⟨_, rfl⟩
          rw [he1] at hrt hok ⊢
          by_cases hne : e1 = []
          · unfold rawBody
            rw [if_pos hne, List.nil_append]
            refine ⟨hk, fun _ => ?_, hseq⟩
            rcases hend with h | h
            · exact .inl h
            · exact .inr (.inl h)
          · unfold rawBody
            rw [if_neg hne]
            refine ⟨hk, fun _ => .inr (.inr ⟨e1, _, rfl, hok, hend⟩), ok_chars hne hrt.1, (fun h => by cases h), hseq⟩

end Go.Proofs.YthmnnalamaponaaGreat

/- Part BldM. -/
namespace Go.Proofs.YthmnnalamaponaaGreat
set_option linter.unusedVariables false
set_option linter.unusedSimpArgs false

/-- An open element: what its beginning told, and what stands in it so far. -/
structure Fr where
  name : ByteArray
  attrs : List (ByteArray × ByteArray)
  kids : List Nd
/-- A builder: the open elements, the innermost first; what stands outside of all. -/
structure Bst where
  fs : List Fr
  out : List Nd
def nodeOf (f : Fr) : Nd := .mk 1 f.name f.attrs (tB []) f.kids
/-- One node more, where nodes go. -/
def addTo : Bst → Nd → Bst
  | ⟨[], out⟩, n => ⟨[], mstep out n⟩
  | ⟨f :: fs, out⟩, n => ⟨⟨f.name, f.attrs, mstep f.kids n⟩ :: fs, out⟩
/-- The innermost element is no more open. -/
def popB : Bst → Bst
  | ⟨[], out⟩ => ⟨[], out⟩
  | ⟨f :: fs, out⟩ => addTo ⟨fs, out⟩ (nodeOf f)
def popN : Nat → Bst → Bst
  | 0, s => s
  | n + 1, s => popN n (popB s)
def textN (t : ByteArray) : Nd := .mk 2 (tB []) [] t []
def remN (t : ByteArray) : Nd := .mk 3 (tB []) [] t []
def shutBy (nm : List UInt8) (f : Fr) : Bool := closesB f.name.data.toList nm
def notNamed (nm : ByteArray) (f : Fr) : Bool := !decide (f.name = nm)
/-- A token is built. -/
def putB (s : Bst) (k : Tk) : Bst :=
  if k.kind = 1 then
    (let s' := popN (s.fs.takeWhile (shutBy k.name.data.toList)).length s
     if voidB k.name.data.toList = true then addTo s' (.mk 1 k.name k.attrs (tB []) []) else ⟨⟨k.name, k.attrs, []⟩ :: s'.fs, s'.out⟩)
  else if k.kind = 2 then (if s.fs.all (notNamed k.name) = true then s else popN ((s.fs.takeWhile (notNamed k.name)).length + 1) s)
  else if k.kind = 3 then addTo s (textN k.text)
  else if k.kind = 4 then addTo s (remN k.text)
  else s
def nodesB (s : Bst) : List Nd := (popN s.fs.length s).out
def treeB (l : List Tk) : List Nd := nodesB (l.foldl putB ⟨[], []⟩)
/-- A text, parsed. -/
def parseB (l : List UInt8) : List Nd := treeB (tokB l)

/-! ### nodes' tags, built -/
def inner : Bst → List Nd
  | ⟨[], out⟩ => out
  | ⟨f :: _, _⟩ => f.kids
def setIn : Bst → List Nd → Bst
  | ⟨[], _⟩, l => ⟨[], l⟩
  | ⟨f :: fs, out⟩, l => ⟨⟨f.name, f.attrs, l⟩ :: fs, out⟩
theorem addTo_eq (s : Bst) (n : Nd) : addTo s n = setIn s (mstep (inner s) n) := by
  obtain ⟨fs, out⟩ := s
  cases fs <;> rfl
theorem setIn_setIn (s : Bst) (a b : List Nd) : setIn (setIn s a) b = setIn s b := by
  obtain ⟨fs, out⟩ := s
  cases fs <;> rfl
theorem inner_setIn (s : Bst) (a : List Nd) : inner (setIn s a) = a := by
  obtain ⟨fs, out⟩ := s
  cases fs <;> rfl
theorem setIn_inner (s : Bst) : setIn s (inner s) = s := by
  obtain ⟨fs, out⟩ := s
  cases fs <;> rfl
/-- Nothing of l closes the innermost element. -/
def openFor (s : Bst) (l : List Nd) : Prop := ∀ f fs, s.fs = f :: fs → ∀ n ∈ l, n.kind = 1 → closesB f.name.data.toList n.name.data.toList = false
theorem openFor_setIn {s : Bst} {l a : List Nd} (h : openFor s l) : openFor (setIn s a) l := by
  obtain ⟨fs, out⟩ := s
  cases fs with
  | nil => intro f fs h'; cases h'
  | cons g gs =>
    intro f fs h' n hn hk
    injection h' with h1 _
    subst h1
    exact h g gs rfl n hn hk

theorem mstep_app {l : List Nd} {n : Nd} (h : n.kind = 2 → n.text.data.toList ≠ [] ∧ lastText l = false) : mstep l n = l ++ [n] := by
  unfold mstep
  by_cases h2 : n.kind = 2
  · obtain ⟨h3, h4⟩ := h h2
    rw [if_neg (fun e => h3 e.2), if_neg (fun e => by rw [h4] at e; cases e.2)]
  · rw [if_neg (fun e => h2 e.1), if_neg (fun e => h2 e.1)]

theorem nd_ext {a b : Nd} (h1 : a.kind = b.kind) (h2 : a.name = b.name) (h3 : a.attrs = b.attrs) (h4 : a.text = b.text) (h5 : a.kids = b.kids) : a = b := by
  cases a
  cases b
  simp only [Nd.kind, Nd.name, Nd.attrs, Nd.text, Nd.kids] at h1 h2 h3 h4 h5
  subst h1 h2 h3 h4 h5
  rfl
theorem text_nil {s : ByteArray} (h : s.data.toList = []) : s = tB [] := tB_eq h

/-- One node's tags. -/
theorem put_node {x : Nd} (hok : nodeOK x) (hst : stN x = true) (hvoid : voidB x.name.data.toList = true → x.kids = [])
    (hkids : ∀ s, openFor s x.kids → (∀ n, x.kids.head? = some n → n.kind = 2 → lastText (inner s) = false) → (tagsL x.kids).foldl putB s = setIn s (inner s ++ x.kids))
    (s : Bst) (ho : openFor s [x]) (hr : x.kind = 2 → x.text.data.toList ≠ [] ∧ lastText (inner s) = false) : (tagsN x).foldl putB s = setIn s (inner s ++ [x]) := by
  have happ := mstep_app hr
  rcases hok with ⟨h1, hn, ht, ha⟩ | ⟨h23, hn, ha, hk, _⟩
  · have hno : s.fs.takeWhile (shutBy x.name.data.toList) = [] := by
      cases hs : s.fs with
      | nil => rfl
      | cons f fs =>
        have := ho f fs hs x (by simp) h1
        rw [List.takeWhile_cons, if_neg (by unfold shutBy; rw [this]; decide)]
    have hkn : (tkB x.name.data.toList x.attrs).name = x.name := tB_of _
    rw [tagsN_eq, if_pos h1]
    cases hv : voidB x.name.data.toList with
    | true =>
      rw [if_pos rfl]
      show putB s (tkB x.name.data.toList x.attrs) = _
      unfold putB
      rw [if_pos (show (tkB x.name.data.toList x.attrs).kind = 1 from rfl), hkn, hno]
      show (if voidB x.name.data.toList = true then addTo s (.mk 1 x.name x.attrs (tB []) []) else _) = _
      rw [if_pos hv, addTo_eq]
      have hx : Nd.mk 1 x.name x.attrs (tB []) [] = x := nd_ext h1.symm rfl rfl (text_nil ht).symm (hvoid hv).symm
      rw [hx, happ]
    | false =>
      rw [if_neg (by decide)]
      have hput : putB s (tkB x.name.data.toList x.attrs) = ⟨⟨x.name, x.attrs, []⟩ :: s.fs, s.out⟩ := by
        unfold putB
        rw [if_pos (show (tkB x.name.data.toList x.attrs).kind = 1 from rfl), hkn, hno]
        show (if voidB x.name.data.toList = true then _ else (⟨⟨x.name, x.attrs, []⟩ :: s.fs, s.out⟩ : Bst)) = _
        rw [if_neg (by rw [hv]; decide)]
      rw [List.foldl_cons, hput, List.foldl_append]
      have hfit : openFor ⟨⟨x.name, x.attrs, []⟩ :: s.fs, s.out⟩ x.kids := by
        intro f fs hf n hnk hk1
        injection hf with hf1 _
        subst hf1
        rw [stN_eq, Bool.and_eq_true, Bool.and_eq_true] at hst
        have := List.all_eq_true.1 hst.1.2 n hnk
        unfold fitsB at this
        rw [hv, if_neg (by decide)] at this
        split at this
        · rw [Bool.and_eq_true, decide_eq_true_eq] at this
          omega
        · rw [Bool.or_eq_true] at this
          rcases this with h | h
          · simp [hk1] at h
          · simpa using h
      rw [hkids _ hfit (fun _ _ _ => rfl)]
      show putB ⟨⟨x.name, x.attrs, [] ++ x.kids⟩ :: s.fs, s.out⟩ (tkE x.name.data.toList) = _
      have hen : (tkE x.name.data.toList).name = x.name := tB_of _
      have hnn : notNamed x.name (⟨x.name, x.attrs, [] ++ x.kids⟩ : Fr) = false := by simp [notNamed]
      unfold putB
      rw [if_neg (show ¬ (tkE x.name.data.toList).kind = 1 by show ¬ (2 : Int) = 1; decide), if_pos (show (tkE x.name.data.toList).kind = 2 from rfl), hen]
      show (if ((⟨x.name, x.attrs, [] ++ x.kids⟩ : Fr) :: s.fs).all (notNamed x.name) = true then _ else popN ((((⟨x.name, x.attrs, [] ++ x.kids⟩ : Fr) :: s.fs).takeWhile (notNamed x.name)).length + 1) _) = _
      rw [if_neg (by rw [List.all_cons, hnn, Bool.false_and]; decide), List.takeWhile_cons, if_neg (by rw [hnn]; decide)]
      show addTo ⟨s.fs, s.out⟩ (nodeOf ⟨x.name, x.attrs, [] ++ x.kids⟩) = _
      have hx : nodeOf ⟨x.name, x.attrs, [] ++ x.kids⟩ = x := nd_ext h1.symm rfl rfl (text_nil ht).symm rfl
      rw [hx, addTo_eq, happ]
  · have hnm := text_nil hn
    rcases h23 with h2 | h3
    · rw [tagsN_eq, if_neg (by omega), if_pos h2]
      have hx : textN (tB x.text.data.toList) = x := nd_ext h2.symm hnm.symm ha.symm (tB_of _) hk.symm
      show addTo s (textN (tB x.text.data.toList)) = _
      rw [hx, addTo_eq, happ]
    · rw [tagsN_eq, if_neg (by omega), if_neg (by omega), if_pos h3]
      have hx : remN (tB x.text.data.toList) = x := nd_ext h3.symm hnm.symm ha.symm (tB_of _) hk.symm
      show addTo s (remN (tB x.text.data.toList)) = _
      rw [hx, addTo_eq, happ]

theorem void_kids {x : Nd} (hst : stN x = true) (hv : voidB x.name.data.toList = true) : x.kids = [] := by
  rw [stN_eq, Bool.and_eq_true, Bool.and_eq_true] at hst
  cases hk : x.kids with
  | nil => rfl
  | cons n l =>
    have := List.all_eq_true.1 hst.1.2 n (by rw [hk]; simp)
    unfold fitsB at this
    rw [if_pos hv] at this
    cases this

theorem put_tags : ∀ l : List Nd, GoodL l → stL l = true → ∀ s, openFor s l → (∀ n, l.head? = some n → n.kind = 2 → lastText (inner s) = false) → (tagsL l).foldl putB s = setIn s (inner s ++ l) := by
  intro l
  induction l using nd_ind with
  | h l ih =>
    intro hg hst
    have key : ∀ m : List Nd, (∀ x ∈ m, nodeOK x) → (∀ x ∈ m, stN x = true) →
        (∀ x ∈ m, ∀ s, openFor s x.kids → (∀ n, x.kids.head? = some n → n.kind = 2 → lastText (inner s) = false) → (tagsL x.kids).foldl putB s = setIn s (inner s ++ x.kids)) →
        ∀ b, sides b m → ∀ s, openFor s m → (∀ n, m.head? = some n → n.kind = 2 → lastText (inner s) = false) → (tagsL m).foldl putB s = setIn s (inner s ++ m) := by
      intro m
      induction m with
      | nil => intro _ _ _ b _ s _ _; rw [tagsL_nil, List.append_nil, setIn_inner]; rfl
      | cons x m ihm =>
        intro h1 h2 h3 b hs s ho hh
        rw [tagsL_cons, List.foldl_append, put_node (h1 x (by simp)) (h2 x (by simp)) (void_kids (h2 x (by simp))) (h3 x (by simp)) s (fun f fs hf n hn => ho f fs hf n (by simp only [List.mem_singleton] at hn; subst hn; simp)) (fun hk => ⟨(hs.1 hk).1, hh x rfl hk⟩)]
        rw [ihm (fun y hy => h1 y (by simp [hy])) (fun y hy => h2 y (by simp [hy])) (fun y hy => h3 y (by simp [hy])) _ hs.2 _ ?_ ?_, setIn_setIn, inner_setIn, List.append_assoc]
        · rfl
        · refine openFor_setIn fun f fs hf n hn => ho f fs hf n (by simp [hn])
        · intro n hn hk
          rw [inner_setIn, lastText_snoc]
          cases m with
          | nil => cases hn
          | cons y m =>
            injection hn with hn
            subst hn
            exact (hs.2.1 hk).2
    rw [stL_all, List.all_eq_true] at hst
    refine key l hg.nodes (fun x hx => hst x hx) (fun x hx => ?_) false hg.sides_
    obtain ⟨i, hi, he⟩ := List.mem_iff_getElem.1 hx
    have hsx := hst x hx
    rw [stN_eq, Bool.and_eq_true] at hsx
    exact ih i x (by rw [List.getElem?_eq_getElem hi, he]) (hg.kids x hx) hsx.2

/-- Stable nodes' tags are built as the nodes. -/
theorem tree_tags {l : List Nd} (hg : GoodL l) (hst : stL l = true) : treeB (tagsL l) = l := by
  unfold treeB
  rw [put_tags l hg hst ⟨[], []⟩ (fun f fs h => by cases h) (fun _ _ _ => rfl)]
  rfl
/-- Stable nodes, written and parsed, are as they were. -/
theorem parse_write {l : List Nd} (hg : GoodL l) (hst : stL l = true) : parseB (txtL false l) = l := by
  unfold parseB
  have := tok_write l hg hst [] (.inl rfl)
  rw [List.append_nil, tokB_nil, List.append_nil] at this
  rw [this, tree_tags hg hst]

/-! ### whatever is built -/
/-- A builder's open elements are as they should be. -/
def frOK (f : Fr) : Prop := namedB f.name.data.toList = true ∧ attrsOK f.attrs ∧ voidB f.name.data.toList = false ∧ GoodL f.kids ∧ stL f.kids = true ∧ f.kids.all (fitsB f.name.data.toList) = true
def chainOK : List Fr → Prop
  | [] => True
  | [_] => True
  | f :: g :: fs => rawB g.name.data.toList = false ∧ closesB g.name.data.toList f.name.data.toList = false ∧ chainOK (g :: fs)
structure BOK (s : Bst) : Prop where
  fr : ∀ f ∈ s.fs, frOK f
  ch : chainOK s.fs
  out : GoodL s.out
  st : stL s.out = true
/-- What may come, if the innermost element is raw. -/
def rawCome (s : Bst) (l : List Tk) : Prop := ∀ f fs, s.fs = f :: fs → rawB f.name.data.toList = true →
  (f.kids = [] ∧ rawNext f.name.data.toList l) ∨ (∃ t, f.kids = [textN t] ∧ (l = [] ∨ ∃ l', l = tkE f.name.data.toList :: l'))

theorem node_ok {f : Fr} (h : frOK f) : nodeOK (nodeOf f) ∧ GoodL (nodeOf f).kids ∧ stN (nodeOf f) = true := by
  refine ⟨.inl ⟨rfl, h.1, tB_list _, h.2.1⟩, h.2.2.2.1, ?_⟩
  rw [stN_eq]
  show ((!decide ((1 : Int) = 3) || _) && f.kids.all (fitsB f.name.data.toList) && stL f.kids) = true
  rw [h.2.2.2.2.1, h.2.2.2.2.2]
  rfl
theorem stN_glue {x : Nd} {t : ByteArray} (h2 : x.kind = 2) (h : stN x = true) : stN (.mk x.kind x.name x.attrs (x.text ++ t) x.kids) = true := by
  rw [stN_eq] at h ⊢
  show ((!decide (x.kind = 3) || _) && x.kids.all (fitsB x.name.data.toList) && stL x.kids) = true
  rw [h2] at h ⊢
  simpa using h
theorem mstep_st {l : List Nd} {n : Nd} (h : stL l = true) (hn : stN n = true) : stL (mstep l n) = true := by
  unfold mstep
  split
  · exact h
  · split
    · rename_i h2
      have hne : 0 < l.length := by
        rcases Nat.eq_zero_or_pos l.length with h0 | h0
        · have := List.eq_nil_of_length_eq_zero h0
          subst this
          cases h2.2
        · exact h0
      obtain ⟨m, x, rfl⟩ := snoc_of hne
      rw [lastText_snoc] at h2
      rw [mglue_snoc, stL_append]
      rw [stL_append, stL_cons, stL_nil, Bool.and_true, Bool.and_eq_true] at h
      rw [stL_cons, stL_nil, Bool.and_true, h.1, Bool.true_and]
      exact stN_glue (by simpa using h2.2) h.2
    · rw [stL_append, h, stL_cons, stL_nil, hn]
      rfl
theorem mstep_fits {p : List UInt8} {l : List Nd} {n : Nd} (hr : rawB p = false) (h : l.all (fitsB p) = true) (hn : fitsB p n = true) : (mstep l n).all (fitsB p) = true := by
  unfold mstep
  split
  · exact h
  · split
    · rename_i h2
      have hne : 0 < l.length := by
        rcases Nat.eq_zero_or_pos l.length with h0 | h0
        · have := List.eq_nil_of_length_eq_zero h0
          subst this
          cases h2.2
        · exact h0
      obtain ⟨m, x, rfl⟩ := snoc_of hne
      rw [lastText_snoc] at h2
      rw [mglue_snoc, List.all_append]
      rw [List.all_append, Bool.and_eq_true] at h
      rw [h.1]
      have hx : fitsB p x = true := by simpa using h.2
      have hx2 : x.kind = 2 := by simpa using h2.2
      have : fitsB p (.mk x.kind x.name x.attrs (x.text ++ n.text) x.kids) = true := by
        unfold fitsB at hx ⊢
        rw [hr] at hx ⊢
        split at hx
        · cases hx
        · rename_i hv
          rw [if_neg hv, if_neg (by decide)]
          show (!decide (x.kind = 1) || _) = true
          rw [hx2]
          rfl
      simp [this]
    · rw [List.all_append, h]
      simp [hn]
theorem addTo_ok {s : Bst} {n : Nd} (h : BOK s) (hn : nodeOK n) (hk : GoodL n.kids) (hst : stN n = true) (hf : ∀ f fs, s.fs = f :: fs → rawB f.name.data.toList = false ∧ fitsB f.name.data.toList n = true) : BOK (addTo s n) := by
  obtain ⟨fs, out⟩ := s
  cases fs with
  | nil => exact ⟨(fun f hf => by cases hf), trivial, mstep_good h.out hn hk, mstep_st h.st hst⟩
  | cons f fs =>
    have h0 := h.fr f (by simp)
    have h1 := hf f fs rfl
    refine ⟨fun g hg => ?_, ?_, h.out, h.st⟩
    · rcases List.mem_cons.1 hg with rfl | hg
      · exact ⟨h0.1, h0.2.1, h0.2.2.1, mstep_good h0.2.2.2.1 hn hk, mstep_st h0.2.2.2.2.1 hst, mstep_fits h1.1 h0.2.2.2.2.2 h1.2⟩
      · exact h.fr g (List.mem_cons_of_mem _ hg)
    · have := h.ch
      cases fs with
      | nil => trivial
      | cons g gs => exact ⟨this.1, this.2.1, this.2.2⟩
theorem addTo_names (s : Bst) (n : Nd) : (addTo s n).fs.map Fr.name = s.fs.map Fr.name := by
  obtain ⟨fs, out⟩ := s
  cases fs <;> rfl
/-- The innermost element closed. -/
theorem pop_ok {s : Bst} (h : BOK s) : BOK (popB s) := by
  obtain ⟨fs, out⟩ := s
  cases fs with
  | nil => exact h
  | cons f fs =>
    have h0 := h.fr f (by simp)
    obtain ⟨a, b, c⟩ := node_ok h0
    refine addTo_ok ⟨fun g hg => h.fr g (List.mem_cons_of_mem _ hg), ?_, h.out, h.st⟩ a b c fun g gs hg => ?_
    · have := h.ch
      cases fs with
      | nil => trivial
      | cons g gs => exact this.2.2
    · have hch := h.ch
      have hfs : fs = g :: gs := hg
      subst hfs
      have hg0 := h.fr g (by simp)
      refine ⟨hch.1, ?_⟩
      unfold fitsB
      rw [hg0.2.2.1, if_neg (by decide), hch.1, if_neg (by decide)]
      show (!decide ((1 : Int) = 1) || !closesB g.name.data.toList f.name.data.toList) = true
      rw [hch.2.1]
      rfl
theorem popN_ok : ∀ (n : Nat) {s : Bst}, BOK s → BOK (popN n s)
  | 0, s, h => h
  | n + 1, s, h => popN_ok n (pop_ok h)
theorem pop_names (s : Bst) : (popB s).fs.map Fr.name = (s.fs.map Fr.name).drop 1 := by
  obtain ⟨fs, out⟩ := s
  cases fs with
  | nil => rfl
  | cons f fs => exact addTo_names _ _
theorem popN_names : ∀ (n : Nat) (s : Bst), (popN n s).fs.map Fr.name = (s.fs.map Fr.name).drop n
  | 0, s => by rw [List.drop_zero]; rfl
  | n + 1, s => by
    show (popN n (popB s)).fs.map Fr.name = _
    rw [popN_names n, pop_names, List.drop_drop, Nat.add_comm]
/-- Behind a pop the innermost element is not raw. -/
theorem chain_names : ∀ {fs gs : List Fr}, fs.map Fr.name = gs.map Fr.name → chainOK fs → chainOK gs
  | [], [], _, _ => trivial
  | [], _ :: _, h, _ => by cases h
  | _ :: _, [], h, _ => by cases h
  | [_], [_], _, _ => trivial
  | [_], _ :: _ :: _, h, _ => by simp at h
  | _ :: _ :: _, [_], h, _ => by simp at h
  | f :: f' :: fs, g :: g' :: gs, h, hc => by
    simp only [List.map_cons] at h
    injection h with h1 h
    have h' := h
    injection h with h2 h
    exact ⟨by rw [← h2]; exact hc.1, by rw [← h2, ← h1]; exact hc.2.1, chain_names (fs := f' :: fs) (gs := g' :: gs) h' hc.2.2⟩
theorem chain_drop : ∀ (n : Nat) {fs : List Fr}, chainOK fs → 0 < n → ∀ f gs, fs.drop n = f :: gs → rawB f.name.data.toList = false
  | 0, _, _, h, _, _, _ => by omega
  | n + 1, [], _, _, f, gs, h => by cases h
  | n + 1, [x], _, _, f, gs, h => by
    rw [List.drop_succ_cons] at h
    cases n <;> cases h
  | 1, x :: y :: fs, hc, _, f, gs, h => by
    injection h with h1 _
    subst h1
    exact hc.1
  | n + 2, x :: y :: fs, hc, _, f, gs, h => chain_drop (n + 1) hc.2.2 (by omega) f gs (by rw [List.drop_succ_cons] at h; exact h)
theorem names_head {fs : List Fr} {gs : List Fr} {f : Fr} {fs' : List Fr} (h : fs.map Fr.name = gs.map Fr.name) (hf : fs = f :: fs') : ∃ g gs', gs = g :: gs' ∧ g.name = f.name := by
  subst hf
  cases gs with
  | nil => cases h
  | cons g gs' =>
    injection h with h1 _
    exact ⟨g, gs', rfl, h1.symm⟩
theorem pop_noraw {n : Nat} {s : Bst} (h : BOK s) (hn : 0 < n) : ∀ f fs, (popN n s).fs = f :: fs → rawB f.name.data.toList = false := by
  intro f fs hf
  have hnm := popN_names n s
  rw [← List.map_drop] at hnm
  obtain ⟨g, gs, hg, he⟩ := names_head hnm hf
  rw [← he]
  exact chain_drop n h.ch hn g gs hg

theorem fits_remark {p : List UInt8} (hv : voidB p = false) (hr : rawB p = false) (n : Nd) (h : n.kind ≠ 1) : fitsB p n = true := by
  unfold fitsB
  rw [hv, if_neg (by decide), hr, if_neg (by decide)]
  simp [h]
theorem rawCome_of {s : Bst} {l : List Tk} (h : ∀ f fs, s.fs = f :: fs → rawB f.name.data.toList = false) : rawCome s l := fun f fs hf hr => by rw [h f fs hf] at hr; cases hr
/-- Where the next token is neither an end nor characters, the innermost element is not raw. -/
theorem come_noraw {s : Bst} {k : Tk} {l : List Tk} (h : rawCome s (k :: l)) (h2 : k.kind ≠ 2) (h3 : k.kind ≠ 3) : ∀ f fs, s.fs = f :: fs → rawB f.name.data.toList = false := by
  intro f fs hf
  cases hr : rawB f.name.data.toList with
  | false => rfl
  | true =>
    exfalso
    rcases h f fs hf hr with ⟨_, hn⟩ | ⟨t, _, hn⟩
    · rcases hn with hn | ⟨l', hn⟩ | ⟨t, l', hn, _⟩
      · cases hn
      · injection hn with hn _; subst hn; exact h2 rfl
      · injection hn with hn _; subst hn; exact h3 rfl
    · rcases hn with hn | ⟨l', hn⟩
      · cases hn
      · injection hn with hn _; subst hn; exact h2 rfl
theorem tw_stop {p : Fr → Bool} : ∀ {fs : List Fr} {f : Fr} {gs : List Fr}, fs.drop (fs.takeWhile p).length = f :: gs → p f = false
  | [], f, gs, h => by cases h
  | x :: fs, f, gs, h => by
    rw [List.takeWhile_cons] at h
    split at h
    · rw [List.length_cons, List.drop_succ_cons] at h
      exact tw_stop h
    · rename_i hx
      injection h with h1 _
      subst h1
      simpa using hx

theorem put_ok {s : Bst} {k : Tk} {l : List Tk} (h : BOK s) (hc : rawCome s (k :: l)) (hs : seqOK (k :: l)) : BOK (putB s k) ∧ rawCome (putB s k) l := by
  obtain ⟨hk, hraw, hsl⟩ := hs
  rcases hk with ⟨h1, hn, ha, ht⟩ | ⟨h2, hn, ha, ht⟩ | ⟨h3, hn, ha, htn, ht⟩ | ⟨h4, hn, ha, ht, hno⟩
  · -- a beginning
    have hnr := come_noraw hc (by omega) (by omega)
    obtain ⟨c, hcnt⟩ : ∃ c, (s.fs.takeWhile (shutBy k.name.data.toList)).length = c := ⟨_, rfl⟩
    have hpo := popN_ok c h
    have hnr' : ∀ f fs, (popN c s).fs = f :: fs → rawB f.name.data.toList = false := by
      rcases Nat.eq_zero_or_pos c with h0 | h0
      · subst h0; exact hnr
      · exact pop_noraw h h0
    have hcl : ∀ f fs, (popN c s).fs = f :: fs → closesB f.name.data.toList k.name.data.toList = false := by
      intro f fs hf
      have hnm := popN_names c s
      rw [← List.map_drop] at hnm
      obtain ⟨g, gs, hg, he⟩ := names_head hnm hf
      rw [← hcnt] at hg
      have := tw_stop hg
      unfold shutBy at this
      rw [← he]
      exact this
    have hput : putB s k = if voidB k.name.data.toList = true then addTo (popN c s) (.mk 1 k.name k.attrs (tB []) []) else ⟨⟨k.name, k.attrs, []⟩ :: (popN c s).fs, (popN c s).out⟩ := by
      unfold putB
      rw [if_pos h1, hcnt]
    rw [hput]
    cases hv : voidB k.name.data.toList with
    | true =>
      rw [if_pos rfl]
      have hN : stN (.mk 1 k.name k.attrs (tB []) []) = true := by rw [stN_eq]; rfl
      refine ⟨addTo_ok hpo (.inl ⟨rfl, hn, tB_list _, ha⟩) GoodL.nil hN fun f fs hf => ⟨hnr' f fs hf, ?_⟩, rawCome_of fun f fs hf => ?_⟩
      · unfold fitsB
        rw [(hpo.fr f (by rw [hf]; simp)).2.2.1, if_neg (by decide), hnr' f fs hf, if_neg (by decide)]
        show (!decide ((1 : Int) = 1) || !closesB f.name.data.toList k.name.data.toList) = true
        rw [hcl f fs hf]
        rfl
      · obtain ⟨g, gs, hg, he⟩ := names_head (addTo_names _ _) hf
        rw [← he]
        exact hnr' g gs hg
    | false =>
      rw [if_neg (by decide)]
      refine ⟨⟨fun f hf => ?_, ?_, hpo.out, hpo.st⟩, fun f fs hf hr => ?_⟩
      · rcases List.mem_cons.1 hf with rfl | hf
        · exact ⟨hn, ha, hv, GoodL.nil, stL_nil, rfl⟩
        · exact hpo.fr f hf
      · show chainOK (⟨k.name, k.attrs, []⟩ :: (popN c s).fs)
        cases hfs : (popN c s).fs with
        | nil => trivial
        | cons g gs =>
          refine ⟨hnr' g gs hfs, hcl g gs hfs, ?_⟩
          rw [← hfs]
          exact hpo.ch
      · injection hf with hf _
        subst hf
        exact .inl ⟨rfl, hraw (by unfold rawTk; rw [h1]; simpa using hr)⟩
  · -- an end
    have hput : putB s k = if s.fs.all (notNamed k.name) = true then s else popN ((s.fs.takeWhile (notNamed k.name)).length + 1) s := by
      unfold putB
      rw [if_neg (by omega), if_pos h2]
    rw [hput]
    split
    · rename_i hall
      refine ⟨h, rawCome_of fun f fs hf => ?_⟩
      cases hr : rawB f.name.data.toList with
      | false => rfl
      | true =>
        exfalso
        have hnk : notNamed k.name f = true := List.all_eq_true.1 hall f (by rw [hf]; simp)
        have key : ∀ l', (k :: l) = tkE f.name.data.toList :: l' → False := by
          intro l' he
          injection he with he _
          have : k.name = f.name := by rw [he]; exact tB_of _
          simp [notNamed, this] at hnk
        rcases hc f fs hf hr with ⟨_, hn'⟩ | ⟨t, _, hn'⟩
        · rcases hn' with hn' | ⟨l', hn'⟩ | ⟨t, l', hn', _⟩
          · cases hn'
          · exact key l' hn'
          · injection hn' with hn' _
            rw [hn'] at h2
            cases h2
        · rcases hn' with hn' | ⟨l', hn'⟩
          · cases hn'
          · exact key l' hn'
    · exact ⟨popN_ok _ h, rawCome_of (pop_noraw h (by omega))⟩
  · -- characters
    have hput : putB s k = addTo s (textN k.text) := by
      unfold putB
      rw [if_neg (by omega), if_neg (by omega), if_pos h3]
    rw [hput]
    have hN : nodeOK (textN k.text) := .inr ⟨.inl rfl, tB_list _, rfl, rfl, ht⟩
    have hS : stN (textN k.text) = true := by rw [stN_eq]; rfl
    obtain ⟨fs, out⟩ := s
    cases fs with
    | nil => exact ⟨addTo_ok h hN GoodL.nil hS (fun f fs hf => by cases hf), fun f fs hf => by cases hf⟩
    | cons f fs =>
      have hf0 := h.fr f (by simp)
      cases hr : rawB f.name.data.toList with
      | false =>
        refine ⟨addTo_ok h hN GoodL.nil hS fun g gs hg => ?_, rawCome_of fun g gs hg => ?_⟩
        · injection hg with hg _
          subst hg
          exact ⟨hr, fits_remark hf0.2.2.1 hr _ (by show (2 : Int) ≠ 1; decide)⟩
        · injection hg with hg _
          rw [← hg]
          exact hr
      | true =>
        rcases hc f fs rfl hr with ⟨hke, hn'⟩ | ⟨t, _, hn'⟩
        · rcases hn' with hn' | ⟨l', hn'⟩ | ⟨t, l', hn', hok, hl'⟩
          · cases hn'
          · injection hn' with hn' _
            rw [hn'] at h3
            cases h3
          · injection hn' with hkt hll
            subst hll
            have htx : k.text = tB t := by rw [hkt]; rfl
            have htl : k.text.data.toList = t := by rw [htx, tB_list]
            have hms : mstep f.kids (textN k.text) = [textN k.text] := by
              rw [hke, mstep_app (n := textN k.text) (fun _ => ⟨htn, rfl⟩)]
              rfl
            have hadd : addTo ⟨f :: fs, out⟩ (textN k.text) = ⟨⟨f.name, f.attrs, [textN k.text]⟩ :: fs, out⟩ := by
              show (⟨⟨f.name, f.attrs, mstep f.kids (textN k.text)⟩ :: fs, out⟩ : Bst) = _
              rw [hms]
            rw [hadd]
            have hgood : GoodL [textN k.text] := by
              have := mstep_good GoodL.nil hN GoodL.nil
              rwa [mstep_app (n := textN k.text) (fun _ => ⟨htn, rfl⟩)] at this
            refine ⟨⟨fun g hg => ?_, ?_, h.out, h.st⟩, fun g gs hg hgr => ?_⟩
            · rcases List.mem_cons.1 hg with rfl | hg
              · refine ⟨hf0.1, hf0.2.1, hf0.2.2.1, hgood, by rw [stL_cons, stL_nil, hS]; rfl, ?_⟩
                show ([textN k.text].all (fitsB f.name.data.toList)) = true
                have : fitsB f.name.data.toList (textN k.text) = true := by
                  unfold fitsB
                  rw [hf0.2.2.1, if_neg (by decide), hr, if_pos rfl]
                  show (decide ((2 : Int) = 2) && rawOK f.name.data.toList k.text.data.toList) = true
                  rw [htl, hok]
                  rfl
                simp [this]
              · exact h.fr g (List.mem_cons_of_mem _ hg)
            · have := h.ch
              cases fs with
              | nil => trivial
              | cons x xs => exact ⟨this.1, this.2.1, this.2.2⟩
            · injection hg with hg _
              subst hg
              exact .inr ⟨k.text, rfl, hl'⟩
        · exfalso
          rcases hn' with hn' | ⟨l', hn'⟩
          · cases hn'
          · injection hn' with hn' _
            rw [hn'] at h3
            cases h3
  · -- a comment
    have hnr := come_noraw hc (by omega) (by omega)
    have hput : putB s k = addTo s (remN k.text) := by
      unfold putB
      rw [if_neg (by omega), if_neg (by omega), if_neg (by omega), if_pos h4]
    rw [hput]
    have hN : nodeOK (remN k.text) := .inr ⟨.inr rfl, tB_list _, rfl, rfl, ht⟩
    have hS : stN (remN k.text) = true := by
      rw [stN_eq]
      show ((!decide ((3 : Int) = 3) || noEnd k.text.data.toList) && true && stL []) = true
      rw [hno, stL_nil]
      rfl
    refine ⟨addTo_ok h hN GoodL.nil hS fun f fs hf => ⟨hnr f fs hf, fits_remark (h.fr f (by rw [hf]; simp)).2.2.1 (hnr f fs hf) _ (by show (3 : Int) ≠ 1; decide)⟩, rawCome_of fun f fs hf => ?_⟩
    obtain ⟨g, gs, hg, he⟩ := names_head (addTo_names _ _) hf
    rw [← he]
    exact hnr g gs hg

theorem puts_ok : ∀ (l : List Tk) (s : Bst), BOK s → rawCome s l → seqOK l → BOK (l.foldl putB s)
  | [], s, h, _, _ => h
  | k :: l, s, h, hc, hs => by
    have h1 := put_ok h hc hs
    exact puts_ok l _ h1.1 h1.2 hs.2.2
/-- Whatever tokens of a right text are built as may be, and is stable. -/
theorem tree_ok {l : List Tk} (h : seqOK l) : GoodL (treeB l) ∧ stL (treeB l) = true := by
  have h0 := puts_ok l ⟨[], []⟩ ⟨(fun f hf => by cases hf), trivial, GoodL.nil, stL_nil⟩ (fun f fs hf => by cases hf) h
  have := popN_ok (l.foldl putB ⟨[], []⟩).fs.length h0
  exact ⟨this.out, this.st⟩
theorem parse_ok {l : List UInt8} (h : isB l = true) : GoodL (parseB l) ∧ stL (parseB l) = true := tree_ok (tok_seq _ _ (Nat.le_refl _) h)

end Go.Proofs.YthmnnalamaponaaGreat

/- Part StdM. -/
namespace Go.Proofs.YthmnnalamaponaaGreat
set_option linter.unusedVariables false
set_option linter.unusedSimpArgs false

/-- No comment with an end in it. -/
def okC (n : Nd) : Bool := !decide (n.kind = 3) || noEnd n.text.data.toList
mutual
/-- A node, its kids made stable. -/
def stdN : Nd → Nd
  | .mk k nm a t ks => if k = 1 then .mk k nm a t ((mergeB (stdK nm.data.toList ks)).filter (fitsB nm.data.toList)) else .mk k nm a t ks
def stdK (p : List UInt8) : List Nd → List Nd
  | [] => []
  | n :: l => if (fitsB p n && okC n) = true then stdN n :: stdK p l else stdK p l
end
def stdT (l : List Nd) : List Nd := (l.filter okC).map stdN
/-- Nodes made stable. -/
def steadyB (l : List Nd) : List Nd := mergeB (stdT l)
theorem stdK_eq (p : List UInt8) : ∀ l : List Nd, stdK p l = stdT (l.filter (fitsB p))
  | [] => by simp [stdK, stdT]
  | n :: l => by
    have ih := stdK_eq p l
    rw [List.filter_cons]
    cases hf : fitsB p n with
    | false => simp [stdK, hf, ih]
    | true =>
      rw [if_pos rfl]
      cases ho : okC n with
      | false => simp [stdK, hf, ho, ih, stdT]
      | true => simp [stdK, hf, ho, ih, stdT]
theorem stdN_elem {n : Nd} (h : n.kind = 1) : stdN n = .mk n.kind n.name n.attrs n.text ((steadyB (n.kids.filter (fitsB n.name.data.toList))).filter (fitsB n.name.data.toList)) := by
  cases n with
  | mk k nm a t ks =>
    simp only [Nd.kind] at h
    subst h
    unfold steadyB
    rw [← stdK_eq]
    simp [stdN, Nd.kind, Nd.name, Nd.attrs, Nd.text, Nd.kids]
theorem stdN_other {n : Nd} (h : n.kind ≠ 1) : stdN n = n := by
  cases n with
  | mk k nm a t ks =>
    simp only [Nd.kind] at h
    simp [stdN, h]
theorem stdN_kind (n : Nd) : (stdN n).kind = n.kind := by
  by_cases h : n.kind = 1
  · rw [stdN_elem h]; rfl
  · rw [stdN_other h]
theorem stdN_name (n : Nd) : (stdN n).name = n.name := by
  by_cases h : n.kind = 1
  · rw [stdN_elem h]; rfl
  · rw [stdN_other h]
theorem stdN_text (n : Nd) : (stdN n).text = n.text := by
  by_cases h : n.kind = 1
  · rw [stdN_elem h]; rfl
  · rw [stdN_other h]
theorem fits_same {p : List UInt8} {a b : Nd} (h1 : a.kind = b.kind) (h2 : a.name = b.name) (h3 : a.text = b.text) : fitsB p a = fitsB p b := by
  unfold fitsB
  rw [h1, h2, h3]
theorem stdN_fits (p : List UInt8) (n : Nd) : fitsB p (stdN n) = fitsB p n := fits_same (stdN_kind n) (stdN_name n) (stdN_text n)

theorem szL_filter (p : Nd → Bool) : ∀ l : List Nd, szL (l.filter p) ≤ szL l
  | [] => by simp
  | n :: l => by
    have := szL_filter p l
    rw [List.filter_cons]
    split
    · rw [szL_cons, szL_cons]; omega
    · rw [szL_cons]; omega
/-- Induction on what nodes weigh. -/
theorem sz_ind {P : List Nd → Prop} (h : ∀ l, (∀ m, szL m < szL l → P m) → P l) : ∀ l, P l := by
  have key : ∀ n l, szL l < n → P l := by
    intro n
    induction n with
    | zero => intro l hl; omega
    | succ n ih => intro l hl; exact h l fun m hm => ih m (by omega)
  exact fun l => key (szL l + 1) l (by omega)
theorem mem_sz {l : List Nd} {n : Nd} (h : n ∈ l) : szN n ≤ szL l := by
  obtain ⟨i, hi, he⟩ := List.mem_iff_getElem.1 h
  exact szL_at (List.getElem?_eq_some_iff.2 ⟨hi, he⟩)

theorem steady_sz : ∀ l : List Nd, szL (steadyB l) ≤ szL l := by
  refine sz_ind fun l ih => ?_
  refine Nat.le_trans (merge_sz _) ?_
  unfold stdT
  have key : ∀ m : List Nd, (∀ x ∈ m, szN (stdN x) ≤ szN x) → szL (m.map stdN) ≤ szL m := by
    intro m
    induction m with
    | nil => intro _; simp
    | cons x m ihm =>
      intro h
      rw [List.map_cons, szL_cons, szL_cons]
      have := h x (by simp)
      have := ihm fun y hy => h y (by simp [hy])
      omega
  refine Nat.le_trans (key _ fun x hx => ?_) (szL_filter _ _)
  by_cases h1 : x.kind = 1
  · rw [stdN_elem h1, szN_mk, szN_eq x]
    have hx' := mem_sz (List.mem_filter.1 hx).1
    have h2 := szL_filter (fitsB x.name.data.toList) x.kids
    rw [szN_eq] at hx'
    have h3 := ih (x.kids.filter (fitsB x.name.data.toList)) (by omega)
    have h4 := szL_filter (fitsB x.name.data.toList) (steadyB (x.kids.filter (fitsB x.name.data.toList)))
    omega
  · rw [stdN_other h1]
    exact Nat.le_refl _

theorem foldl_all {p : List UInt8} (hr : rawB p = false) : ∀ (l out : List Nd), out.all (fitsB p) = true → l.all (fitsB p) = true → (l.foldl mstep out).all (fitsB p) = true
  | [], out, h, _ => h
  | n :: l, out, h, hl => by
    rw [List.all_cons, Bool.and_eq_true] at hl
    rw [List.foldl_cons]
    exact foldl_all hr l _ (mstep_fits hr h hl.1) hl.2
theorem foldl_kind2 : ∀ (l out : List Nd), (∀ x ∈ out, x.kind = 2) → (∀ x ∈ l, x.kind = 2) → ∀ x ∈ l.foldl mstep out, x.kind = 2
  | [], out, h, _ => h
  | n :: l, out, h, hl => by
    rw [List.foldl_cons]
    refine foldl_kind2 l _ ?_ (fun x hx => hl x (by simp [hx]))
    intro x hx
    unfold mstep at hx
    split at hx
    · exact h x hx
    · split at hx
      · rename_i h2
        have hne : 0 < out.length := by
          rcases Nat.eq_zero_or_pos out.length with h0 | h0
          · have := List.eq_nil_of_length_eq_zero h0
            subst this
            cases h2.2
          · exact h0
        obtain ⟨m, y, rfl⟩ := snoc_of hne
        rw [mglue_snoc] at hx
        rcases List.mem_append.1 hx with hx | hx
        · exact h x (by simp [hx])
        · simp only [List.mem_singleton] at hx
          subst hx
          exact h y (by simp)
      · rcases List.mem_append.1 hx with hx | hx
        · exact h x hx
        · simp only [List.mem_singleton] at hx
          subst hx
          exact hl x (by simp)
theorem foldl_st : ∀ (l out : List Nd), stL out = true → (∀ x ∈ l, stN x = true) → stL (l.foldl mstep out) = true
  | [], out, h, _ => h
  | n :: l, out, h, hl => by
    rw [List.foldl_cons]
    exact foldl_st l _ (mstep_st h (hl n (by simp))) (fun x hx => hl x (by simp [hx]))
theorem good_filter_one {p : Nd → Bool} {l : List Nd} (h : GoodL l) (h1 : l = [] ∨ ∃ n, l = [n]) : GoodL (l.filter p) := by
  rcases h1 with rfl | ⟨n, rfl⟩
  · exact h
  · rw [List.filter_cons]
    split
    · exact h
    · exact GoodL.nil
theorem st_filter {p : Nd → Bool} {l : List Nd} (h : stL l = true) : stL (l.filter p) = true := by
  rw [stL_all, List.all_eq_true] at h ⊢
  exact fun x hx => h x (List.mem_filter.1 hx).1

/-- Nodes that may be but for what stands side by side, made stable, are stable. -/
theorem steady_pre : ∀ l : List Nd, (∀ n ∈ l, nodeOK n) → (∀ n ∈ l, GoodL n.kids) → GoodL (steadyB l) ∧ stL (steadyB l) = true := by
  refine sz_ind fun l ih => ?_
  intro h1 h2
  have hx : ∀ x ∈ stdT l, nodeOK x ∧ GoodL x.kids ∧ stN x = true := by
    intro x hx
    obtain ⟨n, hn, rfl⟩ := List.mem_map.1 hx
    obtain ⟨hn, hok⟩ := List.mem_filter.1 hn
    have hno := h1 n hn
    have hnk := h2 n hn
    by_cases hk : n.kind = 1
    · rw [stdN_elem hk]
      obtain ⟨p, hp⟩ : ∃ p, n.name.data.toList = p := ⟨_, rfl⟩
      have hz := mem_sz hn
      rw [szN_eq] at hz
      have hzf := szL_filter (fitsB p) n.kids
      have hi := ih (n.kids.filter (fitsB p)) (by omega) (fun m hm => hnk.nodes m (List.mem_filter.1 hm).1) (fun m hm => hnk.kids m (List.mem_filter.1 hm).1)
      rw [hp]
      have hgood : GoodL ((steadyB (n.kids.filter (fitsB p))).filter (fitsB p)) := by
        cases hv : voidB p with
        | true =>
          have : n.kids.filter (fitsB p) = [] := by
            rw [List.filter_eq_nil_iff]
            intro m hm
            unfold fitsB
            rw [hv]
            simp
          rw [this]
          exact GoodL.nil
        | false =>
          cases hr : rawB p with
          | true =>
            have hk2 : ∀ m ∈ steadyB (n.kids.filter (fitsB p)), m.kind = 2 := by
              refine foldl_kind2 _ [] (by simp) ?_
              intro m hm
              obtain ⟨m', hm', rfl⟩ := List.mem_map.1 hm
              have hf := (List.mem_filter.1 (List.mem_filter.1 hm').1).2
              rw [stdN_kind]
              unfold fitsB at hf
              rw [hv, if_neg (by decide), hr, if_pos rfl, Bool.and_eq_true, decide_eq_true_eq] at hf
              exact hf.1
            refine good_filter_one hi.1 ?_
            rcases sides_one hi.1.sides_ hk2 with h | ⟨m, h, _⟩
            · exact .inl h
            · exact .inr ⟨m, h⟩
          | false =>
            have hall : (steadyB (n.kids.filter (fitsB p))).all (fitsB p) = true := by
              refine foldl_all hr _ [] rfl ?_
              rw [List.all_eq_true]
              intro m hm
              obtain ⟨m', hm', rfl⟩ := List.mem_map.1 hm
              rw [stdN_fits]
              exact (List.mem_filter.1 (List.mem_filter.1 hm').1).2
            rw [List.filter_eq_self.2 (fun m hm => List.all_eq_true.1 hall m hm)]
            exact hi.1
      refine ⟨?_, hgood, ?_⟩
      · rcases hno with ⟨a1, a2, a3, a4⟩ | ⟨a1, _⟩
        · exact .inl ⟨a1, a2, a3, a4⟩
        · omega
      · rw [stN_eq]
        show ((!decide (n.kind = 3) || _) && ((steadyB (n.kids.filter (fitsB p))).filter (fitsB p)).all (fitsB n.name.data.toList) && stL ((steadyB (n.kids.filter (fitsB p))).filter (fitsB p))) = true
        rw [hk, hp, st_filter hi.2]
        have : ((steadyB (n.kids.filter (fitsB p))).filter (fitsB p)).all (fitsB p) = true := by
          rw [List.all_eq_true]
          exact fun m hm => (List.mem_filter.1 hm).2
        rw [this]
        rfl
    · rw [stdN_other hk]
      refine ⟨hno, hnk, ?_⟩
      rcases hno with ⟨a1, _⟩ | ⟨_, _, _, hkids, _⟩
      · exact absurd a1 hk
      · rw [stN_eq, hkids, stL_nil]
        unfold okC at hok
        rw [hok]
        rfl
  refine ⟨merge_good ⟨fun x hx' => (hx x hx').1, fun x hx' => (hx x hx').2.1⟩, foldl_st _ [] stL_nil fun x hx' => (hx x hx').2.2⟩
theorem steady_good {l : List Nd} (h : GoodL l) : GoodL (steadyB l) ∧ stL (steadyB l) = true := steady_pre l h.nodes h.kids

end Go.Proofs.YthmnnalamaponaaGreat

/- Part EndM. -/
namespace Go.Proofs.YthmnnalamaponaaGreat
set_option linter.unusedVariables false
set_option linter.unusedSimpArgs false

/-- Where a raw element ends; -1: it doesn't. -/
def endsI (nm l : List UInt8) : Int := if (cutEnd nm l).2 = [] then -1 else ((cutEnd nm l).1.length : Int)
theorem cutEnd_at (nm : List UInt8) : ∀ (i : Nat) (l : List UInt8), (∀ j, j < i → endAt nm (l.drop j) = false) → endAt nm (l.drop i) = true → cutEnd nm l = (l.take i, l.drop i)
  | 0, l, _, h => by
    rw [List.drop_zero] at h
    cases l with
    | nil => rfl
    | cons c r => rw [cutEnd_cons, if_pos h]; rfl
  | i + 1, [], hj, h => by rw [List.drop_nil] at h; rw [List.take_nil, List.drop_nil]; rfl
  | i + 1, c :: r, hj, h => by
    have h0 := hj 0 (by omega)
    rw [List.drop_zero] at h0
    rw [List.drop_succ_cons] at h
    rw [cutEnd_cons, if_neg (by rw [h0]; decide), cutEnd_at nm i r (fun j hj' => by have := hj (j + 1) (by omega); rwa [List.drop_succ_cons] at this) h]
    rfl
theorem cutEnd_no (nm : List UInt8) : ∀ (l : List UInt8), (∀ j, j < l.length → endAt nm (l.drop j) = false) → cutEnd nm l = (l, [])
  | [], _ => rfl
  | c :: r, hj => by
    have h0 := hj 0 (by simp)
    rw [List.drop_zero] at h0
    rw [cutEnd_cons, if_neg (by rw [h0]; decide), cutEnd_no nm r (fun j hj' => by have := hj (j + 1) (by simp; omega); rwa [List.drop_succ_cons] at this)]
theorem endAt_nil (nm : List UInt8) : endAt nm [] = false := by
  unfold endAt
  simp
theorem endAt_short {nm l : List UInt8} (h : l.length ≤ 2 + nm.length) : endAt nm l = false := by
  unfold endAt
  rw [List.drop_of_length_le h]
  simp
theorem endsI_at {nm l : List UInt8} {i : Nat} (hj : ∀ j, j < i → endAt nm (l.drop j) = false) (h : endAt nm (l.drop i) = true) : endsI nm l = (i : Int) := by
  have hlt : i < l.length := by
    rcases Nat.lt_or_ge i l.length with h' | h'
    · exact h'
    · rw [List.drop_of_length_le h', endAt_nil] at h; cases h
  unfold endsI
  rw [cutEnd_at nm i l hj h]
  show (if l.drop i = [] then _ else ((l.take i).length : Int)) = _
  rw [if_neg (by intro e; have := congrArg List.length e; rw [List.length_drop] at this; simp at this; omega), List.length_take]
  omega
theorem endsI_no {nm l : List UInt8} (hj : ∀ j, j < l.length → endAt nm (l.drop j) = false) : endsI nm l = -1 := by
  unfold endsI
  rw [cutEnd_no nm l hj, if_pos rfl]
/-- A raw element does not end in a text, just if behind it its end is the first one. -/
theorem ends_raw {nm t : List UInt8} (hn : ∀ x ∈ nm, namC x = true) : (endsI nm (t ++ (60 :: 47 :: (nm ++ [62]))) = (t.length : Int)) ↔ rawOK nm t = true := by
  constructor
  · intro h
    have hc := cutEnd_app nm (t ++ (60 :: 47 :: (nm ++ [62])))
    unfold endsI at h
    split at h
    · omega
    · have hl : (cutEnd nm (t ++ (60 :: 47 :: (nm ++ [62])))).1.length = t.length := by omega
      have h1 := List.append_inj_left hc hl
      have := cutEnd_rawOK nm (t ++ (60 :: 47 :: (nm ++ [62])))
      rwa [h1] at this
  · intro h
    have := cutEnd_stop hn [] t h
    unfold endsI
    rw [this, if_neg (by simp)]

/-- A text has a word. -/
def hasB (w : List UInt8) : List UInt8 → Bool
  | [] => decide (w = [])
  | c :: r => Lib.hasPrefix (c :: r) w || hasB w r
theorem hasB_at {w : List UInt8} (hw : w ≠ []) : ∀ {l : List UInt8} {i : Nat}, (l.drop i).take w.length = w → hasB w l = true
  | [], i, h => by
    rw [List.drop_nil, List.take_nil] at h
    exact absurd h.symm hw
  | c :: r, 0, h => by
    have : Lib.hasPrefix (c :: r) w = true := by
      unfold Lib.hasPrefix
      rw [List.isPrefixOf_iff_prefix]
      rw [List.drop_zero] at h
      rw [← h]
      exact List.take_prefix _ _
    unfold hasB
    rw [this]
    rfl
  | c :: r, i + 1, h => by
    rw [List.drop_succ_cons] at h
    unfold hasB
    rw [hasB_at hw h, Bool.or_true]
theorem hasB_no {w : List UInt8} (hw : w ≠ []) : ∀ {l : List UInt8}, (∀ i, i + w.length ≤ l.length → (l.drop i).take w.length ≠ w) → hasB w l = false
  | [], h => by
    unfold hasB
    exact decide_eq_false hw
  | c :: r, h => by
    unfold hasB
    rw [Bool.or_eq_false_iff]
    constructor
    · cases hp : Lib.hasPrefix (c :: r) w with
      | false => rfl
      | true =>
        exfalso
        unfold Lib.hasPrefix at hp
        rw [List.isPrefixOf_iff_prefix] at hp
        obtain ⟨t, ht⟩ := hp
        refine h 0 ?_ ?_
        · have := congrArg List.length ht
          rw [List.length_append] at this
          omega
        · rw [List.drop_zero, ← ht, List.take_left]
    · refine hasB_no hw fun i hi => ?_
      have := h (i + 1) (by rw [List.length_cons]; omega)
      rwa [List.drop_succ_cons] at this
theorem has_noEnd : ∀ l : List UInt8, hasB [45, 45, 62] l = !noEnd l
  | [] => rfl
  | c :: r => by
    have ih := has_noEnd r
    unfold hasB
    rw [ih]
    unfold noEnd
    rw [upTo3_cons]
    cases hp : Lib.hasPrefix (c :: r) [45, 45, 62] with
    | true =>
      rw [if_pos rfl]
      simp
    | false =>
      rw [if_neg (by decide)]
      simp

end Go.Proofs.YthmnnalamaponaaGreat
