/- Parts of the proof, in build order: BldM ParM. -/
import Derived.Test.YtialfafjoemppaaK04

/- Part BldM. -/
namespace Go.Proofs.Ytialfafjoemppaa
set_option linter.unusedVariables false
set_option linter.unusedSimpArgs false

/-- An open element: what its beginning told, and what stands in it so far. -/
structure Fr where
  name : ByteArray
  attrs : List (ByteArray × ByteArray)
  kids : List Nd
/-- A builder: the open elements, the innermost first; what stands outside of all. -/
structure Bst where
  fs : List Fr
  out : List Nd
def nodeOf (f : Fr) : Nd := .mk 1 f.name f.attrs (tB []) f.kids
/-- One node more, where nodes go. -/
def addTo : Bst → Nd → Bst
  | ⟨[], out⟩, n => ⟨[], mstep out n⟩
  | ⟨f :: fs, out⟩, n => ⟨⟨f.name, f.attrs, mstep f.kids n⟩ :: fs, out⟩
/-- The innermost element is no more open. -/
def popB : Bst → Bst
  | ⟨[], out⟩ => ⟨[], out⟩
  | ⟨f :: fs, out⟩ => addTo ⟨fs, out⟩ (nodeOf f)
def popN : Nat → Bst → Bst
  | 0, s => s
  | n + 1, s => popN n (popB s)
def textN (t : ByteArray) : Nd := .mk 2 (tB []) [] t []
def remN (t : ByteArray) : Nd := .mk 3 (tB []) [] t []
def shutBy (nm : List UInt8) (f : Fr) : Bool := closesB f.name.data.toList nm
def notNamed (nm : ByteArray) (f : Fr) : Bool := !decide (f.name = nm)
/-- A token is built. -/
def putB (s : Bst) (k : Tk) : Bst :=
  if k.kind = 1 then
    (let s' := popN (s.fs.takeWhile (shutBy k.name.data.toList)).length s
     if voidB k.name.data.toList = true then addTo s' (.mk 1 k.name k.attrs (tB []) []) else ⟨⟨k.name, k.attrs, []⟩ :: s'.fs, s'.out⟩)
  else if k.kind = 2 then (if s.fs.all (notNamed k.name) = true then s else popN ((s.fs.takeWhile (notNamed k.name)).length + 1) s)
  else if k.kind = 3 then addTo s (textN k.text)
  else if k.kind = 4 then addTo s (remN k.text)
  else s
def nodesB (s : Bst) : List Nd := (popN s.fs.length s).out
def treeB (l : List Tk) : List Nd := nodesB (l.foldl putB ⟨[], []⟩)
/-- A text, parsed. -/
def parseB (l : List UInt8) : List Nd := treeB (tokB l)

/-! ### nodes' tags, built -/
def inner : Bst → List Nd
  | ⟨[], out⟩ => out
  | ⟨f :: _, _⟩ => f.kids
def setIn : Bst → List Nd → Bst
  | ⟨[], _⟩, l => ⟨[], l⟩
  | ⟨f :: fs, out⟩, l => ⟨⟨f.name, f.attrs, l⟩ :: fs, out⟩
theorem addTo_eq (s : Bst) (n : Nd) : addTo s n = setIn s (mstep (inner s) n) := by
  obtain ⟨fs, out⟩ := s
  cases fs <;> rfl
theorem setIn_setIn (s : Bst) (a b : List Nd) : setIn (setIn s a) b = setIn s b := by
  obtain ⟨fs, out⟩ := s
  cases fs <;> rfl
theorem inner_setIn (s : Bst) (a : List Nd) : inner (setIn s a) = a := by
  obtain ⟨fs, out⟩ := s
  cases fs <;> rfl
theorem setIn_inner (s : Bst) : setIn s (inner s) = s := by
  obtain ⟨fs, out⟩ := s
  cases fs <;> rfl
/-- Nothing of l closes the innermost element. -/
def openFor (s : Bst) (l : List Nd) : Prop := ∀ f fs, s.fs = f :: fs → ∀ n ∈ l, n.kind = 1 → closesB f.name.data.toList n.name.data.toList = false
theorem openFor_setIn {s : Bst} {l a : List Nd} (h : openFor s l) : openFor (setIn s a) l := by
  obtain ⟨fs, out⟩ := s
  cases fs with
  | nil => intro f fs h'; cases h'
  | cons g gs =>
    intro f fs h' n hn hk
    injection h' with h1 _
    subst h1
    exact h g gs rfl n hn hk

theorem mstep_app {l : List Nd} {n : Nd} (h : n.kind = 2 → n.text.data.toList ≠ [] ∧ lastText l = false) : mstep l n = l ++ [n] := by
  unfold mstep
  by_cases h2 : n.kind = 2
  · obtain ⟨h3, h4⟩ := h h2
    rw [if_neg (fun e => h3 e.2), if_neg (fun e => by rw [h4] at e; cases e.2)]
  · rw [if_neg (fun e => h2 e.1), if_neg (fun e => h2 e.1)]

theorem nd_ext {a b : Nd} (h1 : a.kind = b.kind) (h2 : a.name = b.name) (h3 : a.attrs = b.attrs) (h4 : a.text = b.text) (h5 : a.kids = b.kids) : a = b := by
  cases a
  cases b
  simp only [Nd.kind, Nd.name, Nd.attrs, Nd.text, Nd.kids] at h1 h2 h3 h4 h5
  subst h1 h2 h3 h4 h5
  rfl
theorem text_nil {s : ByteArray} (h : s.data.toList = []) : s = tB [] := tB_eq h

/-- One node's tags. -/
theorem put_node {x : Nd} (hok : nodeOK x) (hst : stN x = true) (hvoid : voidB x.name.data.toList = true → x.kids = [])
    (hkids : ∀ s, openFor s x.kids → (∀ n, x.kids.head? = some n → n.kind = 2 → lastText (inner s) = false) → (tagsL x.kids).foldl putB s = setIn s (inner s ++ x.kids))
    (s : Bst) (ho : openFor s [x]) (hr : x.kind = 2 → x.text.data.toList ≠ [] ∧ lastText (inner s) = false) : (tagsN x).foldl putB s = setIn s (inner s ++ [x]) := by
  have happ := mstep_app hr
  rcases hok with ⟨h1, hn, ht, ha⟩ | ⟨h23, hn, ha, hk, _⟩
  · have hno : s.fs.takeWhile (shutBy x.name.data.toList) = [] := by
      cases hs : s.fs with
      | nil => rfl
      | cons f fs =>
        have := ho f fs hs x (by simp) h1
        rw [List.takeWhile_cons, if_neg (by unfold shutBy; rw [this]; decide)]
    have hkn : (tkB x.name.data.toList x.attrs).name = x.name := tB_of _
    rw [tagsN_eq, if_pos h1]
    cases hv : voidB x.name.data.toList with
    | true =>
      rw [if_pos rfl]
      show putB s (tkB x.name.data.toList x.attrs) = _
      unfold putB
      rw [if_pos (show (tkB x.name.data.toList x.attrs).kind = 1 from rfl), hkn, hno]
      show (if voidB x.name.data.toList = true then addTo s (.mk 1 x.name x.attrs (tB []) []) else _) = _
      rw [if_pos hv, addTo_eq]
      have hx : Nd.mk 1 x.name x.attrs (tB []) [] = x := nd_ext h1.symm rfl rfl (text_nil ht).symm (hvoid hv).symm
      rw [hx, happ]
    | false =>
      rw [if_neg (by decide)]
      have hput : putB s (tkB x.name.data.toList x.attrs) = ⟨⟨x.name, x.attrs, []⟩ :: s.fs, s.out⟩ := by
        unfold putB
        rw [if_pos (show (tkB x.name.data.toList x.attrs).kind = 1 from rfl), hkn, hno]
        show (if voidB x.name.data.toList = true then _ else (⟨⟨x.name, x.attrs, []⟩ :: s.fs, s.out⟩ : Bst)) = _
        rw [if_neg (by rw [hv]; decide)]
      rw [List.foldl_cons, hput, List.foldl_append]
      have hfit : openFor ⟨⟨x.name, x.attrs, []⟩ :: s.fs, s.out⟩ x.kids := by
        intro f fs hf n hnk hk1
        injection hf with hf1 _
        subst hf1
        rw [stN_eq, Bool.and_eq_true, Bool.and_eq_true] at hst
        have := List.all_eq_true.1 hst.1.2 n hnk
        unfold fitsB at this
        rw [hv, if_neg (by decide)] at this
        split at this
        · rw [Bool.and_eq_true, decide_eq_true_eq] at this
          omega
        · rw [Bool.or_eq_true] at this
          rcases this with h | h
          · simp [hk1] at h
          · simpa using h
      rw [hkids _ hfit (fun _ _ _ => rfl)]
      show putB ⟨⟨x.name, x.attrs, [] ++ x.kids⟩ :: s.fs, s.out⟩ (tkE x.name.data.toList) = _
      have hen : (tkE x.name.data.toList).name = x.name := tB_of _
      have hnn : notNamed x.name (⟨x.name, x.attrs, [] ++ x.kids⟩ : Fr) = false := by simp [notNamed]
      unfold putB
      rw [if_neg (show ¬ (tkE x.name.data.toList).kind = 1 by show ¬ (2 : Int) = 1; decide), if_pos (show (tkE x.name.data.toList).kind = 2 from rfl), hen]
      show (if ((⟨x.name, x.attrs, [] ++ x.kids⟩ : Fr) :: s.fs).all (notNamed x.name) = true then _ else popN ((((⟨x.name, x.attrs, [] ++ x.kids⟩ : Fr) :: s.fs).takeWhile (notNamed x.name)).length + 1) _) = _
      rw [if_neg (by rw [List.all_cons, hnn, Bool.false_and]; decide), List.takeWhile_cons, if_neg (by rw [hnn]; decide)]
      show addTo ⟨s.fs, s.out⟩ (nodeOf ⟨x.name, x.attrs, [] ++ x.kids⟩) = _
      have hx : nodeOf ⟨x.name, x.attrs, [] ++ x.kids⟩ = x := nd_ext h1.symm rfl rfl (text_nil ht).symm rfl
      rw [hx, addTo_eq, happ]
  · have hnm := text_nil hn
    rcases h23 with h2 | h3
    · rw [tagsN_eq, if_neg (by omega), if_pos h2]
      have hx : textN (tB x.text.data.toList) = x := nd_ext h2.symm hnm.symm ha.symm (tB_of _) hk.symm
      show addTo s (textN (tB x.text.data.toList)) = _
      rw [hx, addTo_eq, happ]
    · rw [tagsN_eq, if_neg (by omega), if_neg (by omega), if_pos h3]
      have hx : remN (tB x.text.data.toList) = x := nd_ext h3.symm hnm.symm ha.symm (tB_of _) hk.symm
      show addTo s (remN (tB x.text.data.toList)) = _
      rw [hx, addTo_eq, happ]

theorem void_kids {x : Nd} (hst : stN x = true) (hv : voidB x.name.data.toList = true) : x.kids = [] := by
  rw [stN_eq, Bool.and_eq_true, Bool.and_eq_true] at hst
  cases hk : x.kids with
  | nil => rfl
  | cons n l =>
    have := List.all_eq_true.1 hst.1.2 n (by rw [hk]; simp)
    unfold fitsB at this
    rw [if_pos hv] at this
    cases this

theorem put_tags : ∀ l : List Nd, GoodL l → stL l = true → ∀ s, openFor s l → (∀ n, l.head? = some n → n.kind = 2 → lastText (inner s) = false) → (tagsL l).foldl putB s = setIn s (inner s ++ l) := by
  intro l
  induction l using nd_ind with
  | h l ih =>
    intro hg hst
    have key : ∀ m : List Nd, (∀ x ∈ m, nodeOK x) → (∀ x ∈ m, stN x = true) →
        (∀ x ∈ m, ∀ s, openFor s x.kids → (∀ n, x.kids.head? = some n → n.kind = 2 → lastText (inner s) = false) → (tagsL x.kids).foldl putB s = setIn s (inner s ++ x.kids)) →
        ∀ b, sides b m → ∀ s, openFor s m → (∀ n, m.head? = some n → n.kind = 2 → lastText (inner s) = false) → (tagsL m).foldl putB s = setIn s (inner s ++ m) := by
      intro m
      induction m with
      | nil => intro _ _ _ b _ s _ _; rw [tagsL_nil, List.append_nil, setIn_inner]; rfl
      | cons x m ihm =>
        intro h1 h2 h3 b hs s ho hh
        rw [tagsL_cons, List.foldl_append, put_node (h1 x (by simp)) (h2 x (by simp)) (void_kids (h2 x (by simp))) (h3 x (by simp)) s (fun f fs hf n hn => ho f fs hf n (by simp only [List.mem_singleton] at hn; subst hn; simp)) (fun hk => ⟨(hs.1 hk).1, hh x rfl hk⟩)]
        rw [ihm (fun y hy => h1 y (by simp [hy])) (fun y hy => h2 y (by simp [hy])) (fun y hy => h3 y (by simp [hy])) _ hs.2 _ ?_ ?_, setIn_setIn, inner_setIn, List.append_assoc]
        · rfl
        · refine openFor_setIn fun f fs hf n hn => ho f fs hf n (by simp [hn])
        · intro n hn hk
          rw [inner_setIn, lastText_snoc]
          cases m with
          | nil => cases hn
          | cons y m =>
            injection hn with hn
            subst hn
            exact (hs.2.1 hk).2
    rw [stL_all, List.all_eq_true] at hst
    refine key l hg.nodes (fun x hx => hst x hx) (fun x hx => ?_) false hg.sides_
    obtain ⟨i, hi, he⟩ := List.mem_iff_getElem.1 hx
    have hsx := hst x hx
    rw [stN_eq, Bool.and_eq_true] at hsx
    exact ih i x (by rw [List.getElem?_eq_getElem hi, he]) (hg.kids x hx) hsx.2

/-- Stable nodes' tags are built as the nodes. -/
theorem tree_tags {l : List Nd} (hg : GoodL l) (hst : stL l = true) : treeB (tagsL l) = l := by
  unfold treeB
  rw [put_tags l hg hst ⟨[], []⟩ (fun f fs h => by cases h) (fun _ _ _ => rfl)]
  rfl
/-- Stable nodes, written and parsed, are as they were. -/
theorem parse_write {l : List Nd} (hg : GoodL l) (hst : stL l = true) : parseB (txtL false l) = l := by
  unfold parseB
  have := tok_write l hg hst [] (.inl rfl)
  rw [List.append_nil, tokB_nil, List.append_nil] at this
  rw [this, tree_tags hg hst]

/-! ### whatever is built -/
/-- A builder's open elements are as they should be. -/
def frOK (f : Fr) : Prop := namedB f.name.data.toList = true ∧ attrsOK f.attrs ∧ voidB f.name.data.toList = false ∧ GoodL f.kids ∧ stL f.kids = true ∧ f.kids.all (fitsB f.name.data.toList) = true
def chainOK : List Fr → Prop
  | [] => True
  | [_] => True
  | f :: g :: fs => rawB g.name.data.toList = false ∧ closesB g.name.data.toList f.name.data.toList = false ∧ chainOK (g :: fs)
structure BOK (s : Bst) : Prop where
  fr : ∀ f ∈ s.fs, frOK f
  ch : chainOK s.fs
  out : GoodL s.out
  st : stL s.out = true
/-- What may come, if the innermost element is raw. -/
def rawCome (s : Bst) (l : List Tk) : Prop := ∀ f fs, s.fs = f :: fs → rawB f.name.data.toList = true →
  (f.kids = [] ∧ rawNext f.name.data.toList l) ∨ (∃ t, f.kids = [textN t] ∧ (l = [] ∨ ∃ l', l = tkE f.name.data.toList :: l'))

theorem node_ok {f : Fr} (h : frOK f) : nodeOK (nodeOf f) ∧ GoodL (nodeOf f).kids ∧ stN (nodeOf f) = true := by
  refine ⟨.inl ⟨rfl, h.1, tB_list _, h.2.1⟩, h.2.2.2.1, ?_⟩
  rw [stN_eq]
  show ((!decide ((1 : Int) = 3) || _) && f.kids.all (fitsB f.name.data.toList) && stL f.kids) = true
  rw [h.2.2.2.2.1, h.2.2.2.2.2]
  rfl
theorem stN_glue {x : Nd} {t : ByteArray} (h2 : x.kind = 2) (h : stN x = true) : stN (.mk x.kind x.name x.attrs (x.text ++ t) x.kids) = true := by
  rw [stN_eq] at h ⊢
  show ((!decide (x.kind = 3) || _) && x.kids.all (fitsB x.name.data.toList) && stL x.kids) = true
  rw [h2] at h ⊢
  simpa using h
theorem mstep_st {l : List Nd} {n : Nd} (h : stL l = true) (hn : stN n = true) : stL (mstep l n) = true := by
  unfold mstep
  split
  · exact h
  · split
    · rename_i h2
      have hne : 0 < l.length := by
        rcases Nat.eq_zero_or_pos l.length with h0 | h0
        · have := List.eq_nil_of_length_eq_zero h0
          subst this
          cases h2.2
        · exact h0
      obtain ⟨m, x, rfl⟩ := snoc_of hne
      rw [lastText_snoc] at h2
      rw [mglue_snoc, stL_append]
      rw [stL_append, stL_cons, stL_nil, Bool.and_true, Bool.and_eq_true] at h
      rw [stL_cons, stL_nil, Bool.and_true, h.1, Bool.true_and]
      exact stN_glue (by simpa using h2.2) h.2
    · rw [stL_append, h, stL_cons, stL_nil, hn]
      rfl
theorem mstep_fits {p : List UInt8} {l : List Nd} {n : Nd} (hr : rawB p = false) (h : l.all (fitsB p) = true) (hn : fitsB p n = true) : (mstep l n).all (fitsB p) = true := by
  unfold mstep
  split
  · exact h
  · split
    · rename_i h2
      have hne : 0 < l.length := by
        rcases Nat.eq_zero_or_pos l.length with h0 | h0
        · have := List.eq_nil_of_length_eq_zero h0
          subst this
          cases h2.2
        · exact h0
      obtain ⟨m, x, rfl⟩ := snoc_of hne
      rw [lastText_snoc] at h2
      rw [mglue_snoc, List.all_append]
      rw [List.all_append, Bool.and_eq_true] at h
      rw [h.1]
      have hx : fitsB p x = true := by simpa using h.2
      have hx2 : x.kind = 2 := by simpa using h2.2
      have : fitsB p (.mk x.kind x.name x.attrs (x.text ++ n.text) x.kids) = true := by
        unfold fitsB at hx ⊢
        rw [hr] at hx ⊢
        split at hx
        · cases hx
        · rename_i hv
          rw [if_neg hv, if_neg (by decide)]
          show (!decide (x.kind = 1) || _) = true
          rw [hx2]
          rfl
      simp [this]
    · rw [List.all_append, h]
      simp [hn]
theorem addTo_ok {s : Bst} {n : Nd} (h : BOK s) (hn : nodeOK n) (hk : GoodL n.kids) (hst : stN n = true) (hf : ∀ f fs, s.fs = f :: fs → rawB f.name.data.toList = false ∧ fitsB f.name.data.toList n = true) : BOK (addTo s n) := by
  obtain ⟨fs, out⟩ := s
  cases fs with
  | nil => exact ⟨(fun f hf => by cases hf), trivial, mstep_good h.out hn hk, mstep_st h.st hst⟩
  | cons f fs =>
    have h0 := h.fr f (by simp)
    have h1 := hf f fs rfl
    refine ⟨fun g hg => ?_, ?_, h.out, h.st⟩
    · rcases List.mem_cons.1 hg with rfl | hg
      · exact ⟨h0.1, h0.2.1, h0.2.2.1, mstep_good h0.2.2.2.1 hn hk, mstep_st h0.2.2.2.2.1 hst, mstep_fits h1.1 h0.2.2.2.2.2 h1.2⟩
      · exact h.fr g (List.mem_cons_of_mem _ hg)
    · have := h.ch
      cases fs with
      | nil => trivial
      | cons g gs => exact ⟨this.1, this.2.1, this.2.2⟩
theorem addTo_names (s : Bst) (n : Nd) : (addTo s n).fs.map Fr.name = s.fs.map Fr.name := by
  obtain ⟨fs, out⟩ := s
  cases fs <;> rfl
/-- The innermost element closed. -/
theorem pop_ok {s : Bst} (h : BOK s) : BOK (popB s) := by
  obtain ⟨fs, out⟩ := s
  cases fs with
  | nil => exact h
  | cons f fs =>
    have h0 := h.fr f (by simp)
    obtain ⟨a, b, c⟩ := node_ok h0
    refine addTo_ok ⟨fun g hg => h.fr g (List.mem_cons_of_mem _ hg), ?_, h.out, h.st⟩ a b c fun g gs hg => ?_
    · have := h.ch
      cases fs with
      | nil => trivial
      | cons g gs => exact this.2.2
    · have hch := h.ch
      have hfs : fs = g :: gs := hg
      subst hfs
      have hg0 := h.fr g (by simp)
      refine ⟨hch.1, ?_⟩
      unfold fitsB
      rw [hg0.2.2.1, if_neg (by decide), hch.1, if_neg (by decide)]
      show (!decide ((1 : Int) = 1) || !closesB g.name.data.toList f.name.data.toList) = true
      rw [hch.2.1]
      rfl
theorem popN_ok : ∀ (n : Nat) {s : Bst}, BOK s → BOK (popN n s)
  | 0, s, h => h
  | n + 1, s, h => popN_ok n (pop_ok h)
theorem pop_names (s : Bst) : (popB s).fs.map Fr.name = (s.fs.map Fr.name).drop 1 := by
  obtain ⟨fs, out⟩ := s
  cases fs with
  | nil => rfl
  | cons f fs => exact addTo_names _ _
theorem popN_names : ∀ (n : Nat) (s : Bst), (popN n s).fs.map Fr.name = (s.fs.map Fr.name).drop n
  | 0, s => by rw [List.drop_zero]; rfl
  | n + 1, s => by
    show (popN n (popB s)).fs.map Fr.name = _
    rw [popN_names n, pop_names, List.drop_drop, Nat.add_comm]
/-- Behind a pop the innermost element is not raw. -/
theorem chain_names : ∀ {fs gs : List Fr}, fs.map Fr.name = gs.map Fr.name → chainOK fs → chainOK gs
  | [], [], _, _ => trivial
  | [], _ :: _, h, _ => by cases h
  | _ :: _, [], h, _ => by cases h
  | [_], [_], _, _ => trivial
  | [_], _ :: _ :: _, h, _ => by simp at h
  | _ :: _ :: _, [_], h, _ => by simp at h
  | f :: f' :: fs, g :: g' :: gs, h, hc => by
    simp only [List.map_cons] at h
    injection h with h1 h
    have h' := h
    injection h with h2 h
    exact ⟨by rw [← h2]; exact hc.1, by rw [← h2, ← h1]; exact hc.2.1, chain_names (fs := f' :: fs) (gs := g' :: gs) h' hc.2.2⟩
theorem chain_drop : ∀ (n : Nat) {fs : List Fr}, chainOK fs → 0 < n → ∀ f gs, fs.drop n = f :: gs → rawB f.name.data.toList = false
  | 0, _, _, h, _, _, _ => by omega
  | n + 1, [], _, _, f, gs, h => by cases h
  | n + 1, [x], _, _, f, gs, h => by
    rw [List.drop_succ_cons] at h
    cases n <;> cases h
  | 1, x :: y :: fs, hc, _, f, gs, h => by
    injection h with h1 _
    subst h1
    exact hc.1
  | n + 2, x :: y :: fs, hc, _, f, gs, h => chain_drop (n + 1) hc.2.2 (by omega) f gs (by rw [List.drop_succ_cons] at h; exact h)
theorem names_head {fs : List Fr} {gs : List Fr} {f : Fr} {fs' : List Fr} (h : fs.map Fr.name = gs.map Fr.name) (hf : fs = f :: fs') : ∃ g gs', gs = g :: gs' ∧ g.name = f.name := by
  subst hf
  cases gs with
  | nil => cases h
  | cons g gs' =>
    injection h with h1 _
    exact ⟨g, gs', rfl, h1.symm⟩
theorem pop_noraw {n : Nat} {s : Bst} (h : BOK s) (hn : 0 < n) : ∀ f fs, (popN n s).fs = f :: fs → rawB f.name.data.toList = false := by
  intro f fs hf
  have hnm := popN_names n s
  rw [← List.map_drop] at hnm
  obtain ⟨g, gs, hg, he⟩ := names_head hnm hf
  rw [← he]
  exact chain_drop n h.ch hn g gs hg

theorem fits_remark {p : List UInt8} (hv : voidB p = false) (hr : rawB p = false) (n : Nd) (h : n.kind ≠ 1) : fitsB p n = true := by
  unfold fitsB
  rw [hv, if_neg (by decide), hr, if_neg (by decide)]
  simp [h]
theorem rawCome_of {s : Bst} {l : List Tk} (h : ∀ f fs, s.fs = f :: fs → rawB f.name.data.toList = false) : rawCome s l := fun f fs hf hr => by rw [h f fs hf] at hr; cases hr
/-- Where the next token is neither an end nor characters, the innermost element is not raw. -/
theorem come_noraw {s : Bst} {k : Tk} {l : List Tk} (h : rawCome s (k :: l)) (h2 : k.kind ≠ 2) (h3 : k.kind ≠ 3) : ∀ f fs, s.fs = f :: fs → rawB f.name.data.toList = false := by
  intro f fs hf
  cases hr : rawB f.name.data.toList with
  | false => rfl
  | true =>
    exfalso
    rcases h f fs hf hr with ⟨_, hn⟩ | ⟨t, _, hn⟩
    · rcases hn with hn | ⟨l', hn⟩ | ⟨t, l', hn, _⟩
      · cases hn
      · injection hn with hn _; subst hn; exact h2 rfl
      · injection hn with hn _; subst hn; exact h3 rfl
    · rcases hn with hn | ⟨l', hn⟩
      · cases hn
      · injection hn with hn _; subst hn; exact h2 rfl
theorem tw_stop {p : Fr → Bool} : ∀ {fs : List Fr} {f : Fr} {gs : List Fr}, fs.drop (fs.takeWhile p).length = f :: gs → p f = false
  | [], f, gs, h => by cases h
  | x :: fs, f, gs, h => by
    rw [List.takeWhile_cons] at h
    split at h
    · rw [List.length_cons, List.drop_succ_cons] at h
      exact tw_stop h
    · rename_i hx
      injection h with h1 _
      subst h1
      simpa using hx

theorem put_ok {s : Bst} {k : Tk} {l : List Tk} (h : BOK s) (hc : rawCome s (k :: l)) (hs : seqOK (k :: l)) : BOK (putB s k) ∧ rawCome (putB s k) l := by
  obtain ⟨hk, hraw, hsl⟩ := hs
  rcases hk with ⟨h1, hn, ha, ht⟩ | ⟨h2, hn, ha, ht⟩ | ⟨h3, hn, ha, htn, ht⟩ | ⟨h4, hn, ha, ht, hno⟩
  · -- a beginning
    have hnr := come_noraw hc (by omega) (by omega)
    obtain ⟨c, hcnt⟩ : ∃ c, (s.fs.takeWhile (shutBy k.name.data.toList)).length = c := ⟨_, rfl⟩
    have hpo := popN_ok c h
    have hnr' : ∀ f fs, (popN c s).fs = f :: fs → rawB f.name.data.toList = false := by
      rcases Nat.eq_zero_or_pos c with h0 | h0
      · subst h0; exact hnr
      · exact pop_noraw h h0
    have hcl : ∀ f fs, (popN c s).fs = f :: fs → closesB f.name.data.toList k.name.data.toList = false := by
      intro f fs hf
      have hnm := popN_names c s
      rw [← List.map_drop] at hnm
      obtain ⟨g, gs, hg, he⟩ := names_head hnm hf
      rw [← hcnt] at hg
      have := tw_stop hg
      unfold shutBy at this
      rw [← he]
      exact this
    have hput : putB s k = if voidB k.name.data.toList = true then addTo (popN c s) (.mk 1 k.name k.attrs (tB []) []) else ⟨⟨k.name, k.attrs, []⟩ :: (popN c s).fs, (popN c s).out⟩ := by
      unfold putB
      rw [if_pos h1, hcnt]
    rw [hput]
    cases hv : voidB k.name.data.toList with
    | true =>
      rw [if_pos rfl]
      have hN : stN (.mk 1 k.name k.attrs (tB []) []) = true := by rw [stN_eq]; rfl
      refine ⟨addTo_ok hpo (.inl ⟨rfl, hn, tB_list _, ha⟩) GoodL.nil hN fun f fs hf => ⟨hnr' f fs hf, ?_⟩, rawCome_of fun f fs hf => ?_⟩
      · unfold fitsB
        rw [(hpo.fr f (by rw [hf]; simp)).2.2.1, if_neg (by decide), hnr' f fs hf, if_neg (by decide)]
        show (!decide ((1 : Int) = 1) || !closesB f.name.data.toList k.name.data.toList) = true
        rw [hcl f fs hf]
        rfl
      · obtain ⟨g, gs, hg, he⟩ := names_head (addTo_names _ _) hf
        rw [← he]
        exact hnr' g gs hg
    | false =>
      rw [if_neg (by decide)]
      refine ⟨⟨fun f hf => ?_, ?_, hpo.out, hpo.st⟩, fun f fs hf hr => ?_⟩
      · rcases List.mem_cons.1 hf with rfl | hf
        · exact ⟨hn, ha, hv, GoodL.nil, stL_nil, rfl⟩
        · exact hpo.fr f hf
      · show chainOK (⟨k.name, k.attrs, []⟩ :: (popN c s).fs)
        cases hfs : (popN c s).fs with
        | nil => trivial
        | cons g gs =>
          refine ⟨hnr' g gs hfs, hcl g gs hfs, ?_⟩
          rw [← hfs]
          exact hpo.ch
      · injection hf with hf _
        subst hf
        exact .inl ⟨rfl, hraw (by unfold rawTk; rw [h1]; simpa using hr)⟩
  · -- an end
    have hput : putB s k = if s.fs.all (notNamed k.name) = true then s else popN ((s.fs.takeWhile (notNamed k.name)).length + 1) s := by
      unfold putB
      rw [if_neg (by omega), if_pos h2]
    rw [hput]
    split
    · rename_i hall
      refine ⟨h, rawCome_of fun f fs hf => ?_⟩
      cases hr : rawB f.name.data.toList with
      | false => rfl
      | true =>
        exfalso
        have hnk : notNamed k.name f = true := List.all_eq_true.1 hall f (by rw [hf]; simp)
        have key : ∀ l', (k :: l) = tkE f.name.data.toList :: l' → False := by
          intro l' he
          injection he with he _
          have : k.name = f.name := by rw [he]; exact tB_of _
          simp [notNamed, this] at hnk
        rcases hc f fs hf hr with ⟨_, hn'⟩ | ⟨t, _, hn'⟩
        · rcases hn' with hn' | ⟨l', hn'⟩ | ⟨t, l', hn', _⟩
          · cases hn'
          · exact key l' hn'
          · injection hn' with hn' _
            rw [hn'] at h2
            cases h2
        · rcases hn' with hn' | ⟨l', hn'⟩
          · cases hn'
          · exact key l' hn'
    · exact ⟨popN_ok _ h, rawCome_of (pop_noraw h (by omega))⟩
  · -- characters
    have hput : putB s k = addTo s (textN k.text) := by
      unfold putB
      rw [if_neg (by omega), if_neg (by omega), if_pos h3]
    rw [hput]
    have hN : nodeOK (textN k.text) := .inr ⟨.inl rfl, tB_list _, rfl, rfl, ht⟩
    have hS : stN (textN k.text) = true := by rw [stN_eq]; rfl
    obtain ⟨fs, out⟩ := s
    cases fs with
    | nil => exact ⟨addTo_ok h hN GoodL.nil hS (fun f fs hf => by cases hf), fun f fs hf => by cases hf⟩
    | cons f fs =>
      have hf0 := h.fr f (by simp)
      cases hr : rawB f.name.data.toList with
      | false =>
        refine ⟨addTo_ok h hN GoodL.nil hS fun g gs hg => ?_, rawCome_of fun g gs hg => ?_⟩
        · injection hg with hg _
          subst hg
          exact ⟨hr, fits_remark hf0.2.2.1 hr _ (by show (2 : Int) ≠ 1; decide)⟩
        · injection hg with hg _
          rw [← hg]
          exact hr
      | true =>
        rcases hc f fs rfl hr with ⟨hke, hn'⟩ | ⟨t, _, hn'⟩
        · rcases hn' with hn' | ⟨l', hn'⟩ | ⟨t, l', hn', hok, hl'⟩
          · cases hn'
          · injection hn' with hn' _
            rw [hn'] at h3
            cases h3
          · injection hn' with hkt hll
            subst hll
            have htx : k.text = tB t := by rw [hkt]; rfl
            have htl : k.text.data.toList = t := by rw [htx, tB_list]
            have hms : mstep f.kids (textN k.text) = [textN k.text] := by
              rw [hke, mstep_app (n := textN k.text) (fun _ => ⟨htn, rfl⟩)]
              rfl
            have hadd : addTo ⟨f :: fs, out⟩ (textN k.text) = ⟨⟨f.name, f.attrs, [textN k.text]⟩ :: fs, out⟩ := by
              show (⟨⟨f.name, f.attrs, mstep f.kids (textN k.text)⟩ :: fs, out⟩ : Bst) = _
              rw [hms]
            rw [hadd]
            have hgood : GoodL [textN k.text] := by
              have := mstep_good GoodL.nil hN GoodL.nil
              rwa [mstep_app (n := textN k.text) (fun _ => ⟨htn, rfl⟩)] at this
            refine ⟨⟨fun g hg => ?_, ?_, h.out, h.st⟩, fun g gs hg hgr => ?_⟩
            · rcases List.mem_cons.1 hg with rfl | hg
              · refine ⟨hf0.1, hf0.2.1, hf0.2.2.1, hgood, by rw [stL_cons, stL_nil, hS]; rfl, ?_⟩
                show ([textN k.text].all (fitsB f.name.data.toList)) = true
                have : fitsB f.name.data.toList (textN k.text) = true := by
                  unfold fitsB
                  rw [hf0.2.2.1, if_neg (by decide), hr, if_pos rfl]
                  show (decide ((2 : Int) = 2) && rawOK f.name.data.toList k.text.data.toList) = true
                  rw [htl, hok]
                  rfl
                simp [this]
              · exact h.fr g (List.mem_cons_of_mem _ hg)
            · have := h.ch
              cases fs with
              | nil => trivial
              | cons x xs => exact ⟨this.1, this.2.1, this.2.2⟩
            · injection hg with hg _
              subst hg
              exact .inr ⟨k.text, rfl, hl'⟩
        · exfalso
          rcases hn' with hn' | ⟨l', hn'⟩
          · cases hn'
          · injection hn' with hn' _
            rw [hn'] at h3
            cases h3
  · -- a comment
    have hnr := come_noraw hc (by omega) (by omega)
    have hput : putB s k = addTo s (remN k.text) := by
      unfold putB
      rw [if_neg (by omega), if_neg (by omega), if_neg (by omega), if_pos h4]
    rw [hput]
    have hN : nodeOK (remN k.text) := .inr ⟨.inr rfl, tB_list _, rfl, rfl, ht⟩
    have hS : stN (remN k.text) = true := by
      rw [stN_eq]
      show ((!decide ((3 : Int) = 3) || noEnd k.text.data.toList) && true && stL []) = true
      rw [hno, stL_nil]
      rfl
    refine ⟨addTo_ok h hN GoodL.nil hS fun f fs hf => ⟨hnr f fs hf, fits_remark (h.fr f (by rw [hf]; simp)).2.2.1 (hnr f fs hf) _ (by show (3 : Int) ≠ 1; decide)⟩, rawCome_of fun f fs hf => ?_⟩
    obtain ⟨g, gs, hg, he⟩ := names_head (addTo_names _ _) hf
    rw [← he]
    exact hnr g gs hg

theorem puts_ok : ∀ (l : List Tk) (s : Bst), BOK s → rawCome s l → seqOK l → BOK (l.foldl putB s)
  | [], s, h, _, _ => h
  | k :: l, s, h, hc, hs => by
    have h1 := put_ok h hc hs
    exact puts_ok l _ h1.1 h1.2 hs.2.2
/-- Whatever tokens of a right text are built as may be, and is stable. -/
theorem tree_ok {l : List Tk} (h : seqOK l) : GoodL (treeB l) ∧ stL (treeB l) = true := by
  have h0 := puts_ok l ⟨[], []⟩ ⟨(fun f hf => by cases hf), trivial, GoodL.nil, stL_nil⟩ (fun f fs hf => by cases hf) h
  have := popN_ok (l.foldl putB ⟨[], []⟩).fs.length h0
  exact ⟨this.out, this.st⟩
theorem parse_ok {l : List UInt8} (h : isB l = true) : GoodL (parseB l) ∧ stL (parseB l) = true := tree_ok (tok_seq _ _ (Nat.le_refl _) h)

end Go.Proofs.Ytialfafjoemppaa

/- Part ParM. -/
namespace Go.Proofs.Ytialfafjoemppaa
set_option linter.unusedVariables false
set_option linter.unusedSimpArgs false

theorem rt_esc {v : Bool} {l : List UInt8} (h : isB l = true) : isB (escB v l) = true := by
  obtain ⟨L, hL, rfl⟩ := isB_chars _ _ (Nat.le_refl _) h
  obtain ⟨M, hM, he⟩ := esc_right v L hL
  rw [he]
  exact isB_enc _ hM
theorem rt_lit (l : List UInt8) (h : l.all (fun c => decide (c.toNat < 128) && decide (c.toNat ≠ 0) && decide (c.toNat ≠ 13)) = true) : isB l = true := by
  refine asc_right l fun c hc => ?_
  have := List.all_eq_true.1 h c hc
  rw [Bool.and_eq_true, Bool.and_eq_true, decide_eq_true_eq, decide_eq_true_eq, decide_eq_true_eq] at this
  exact ⟨this.1.1, this.1.2, this.2⟩
theorem rt_attT {a : ByteArray × ByteArray} (h1 : attrB a.1.data.toList = true) (h2 : isB a.2.data.toList = true) : isB (attT a) = true := by
  have e : attT a = [32] ++ a.1.data.toList ++ [61, 34] ++ escB true a.2.data.toList ++ [34] := by unfold attT; simp
  rw [e]
  exact rt_app (rt_app (rt_app (rt_app (rt_lit _ rfl) (attr_form h1).2.2) (rt_lit _ rfl)) (rt_esc h2)) (rt_lit _ rfl)
theorem rt_atts : ∀ l : List (ByteArray × ByteArray), (∀ a ∈ l, attrB a.1.data.toList = true ∧ isB a.2.data.toList = true) → isB (l.flatMap attT) = true
  | [], _ => rfl
  | a :: l, h => by
    rw [List.flatMap_cons]
    exact rt_app (rt_attT (h a (by simp)).1 (h a (by simp)).2) (rt_atts l fun x hx => h x (List.mem_cons_of_mem _ hx))
theorem rt_open {n : Nd} (hn : namedB n.name.data.toList = true) (ha : attrsOK n.attrs) : isB (openT n) = true := by
  have e : openT n = [60] ++ n.name.data.toList ++ n.attrs.flatMap attT ++ [62] := by unfold openT; simp
  rw [e]
  exact rt_app (rt_app (rt_app (rt_lit _ rfl) (namedB_right hn)) (rt_atts _ ha.1)) (rt_lit _ rfl)
theorem rt_close {n : Nd} (hn : namedB n.name.data.toList = true) : isB (closeT n) = true := by
  have e : closeT n = [60, 47] ++ n.name.data.toList ++ [62] := by unfold closeT; simp
  rw [e]
  exact rt_app (rt_app (rt_lit _ rfl) (namedB_right hn)) (rt_lit _ rfl)
/-- What is written of nodes that may be is right. -/
theorem rt_txt : ∀ l : List Nd, GoodL l → ∀ raw, isB (txtL raw l) = true := by
  intro l
  induction l using nd_ind with
  | h l ih =>
    intro hg raw
    have key : ∀ m : List Nd, (∀ x ∈ m, nodeOK x) → (∀ x ∈ m, ∀ r, isB (txtL r x.kids) = true) → isB (txtL raw m) = true := by
      intro m
      induction m with
      | nil => intro _ _; rw [txtL_nil]; rfl
      | cons x m ihm =>
        intro h1 h2
        rw [txtL_cons]
        refine rt_app ?_ (ihm (fun y hy => h1 y (by simp [hy])) (fun y hy => h2 y (by simp [hy])))
        rw [txtN_eq]
        rcases h1 x (by simp) with ⟨hk, hn, _, ha⟩ | ⟨hk, _, _, _, ht⟩
        · rw [if_neg (by omega), if_neg (by omega), if_pos hk]
          split
          · exact rt_open hn ha
          · exact rt_app (rt_open hn ha) (rt_app (h2 x (by simp) _) (rt_close hn))
        · rcases hk with hk | hk
          · rw [if_neg (by omega), if_pos hk]
            split
            · exact ht
            · exact rt_esc ht
          · rw [if_pos hk]
            have e : (60 :: 33 :: 45 :: 45 :: (x.text.data.toList ++ [45, 45, 62]) : List UInt8) = [60, 33, 45, 45] ++ x.text.data.toList ++ [45, 45, 62] := by simp
            rw [e]
            exact rt_app (rt_app (rt_lit _ rfl) ht) (rt_lit _ rfl)
    refine key l hg.nodes fun x hx r => ?_
    obtain ⟨i, hi, he⟩ := List.mem_iff_getElem.1 hx
    exact ih i x (by rw [List.getElem?_eq_getElem hi, he]) (hg.kids x hx) r

/-- Nodes that may be are as they were, written and parsed, just if they are stable. -/
theorem keep_iff {l : List Nd} (h : GoodL l) : parseB (txtL false l) = l ↔ stL l = true := by
  refine ⟨fun e => ?_, fun hs => parse_write h hs⟩
  have := (parse_ok (rt_txt l h false)).2
  rwa [e] at this

/-- A text alone. -/
theorem tok_alone (s : List UInt8) : tokB (escB false s) = if s = [] then [] else [tkC s] := by
  by_cases h : s = []
  · rw [if_pos h, h, escB_nil, tokB_nil]
  · have := tok_text (rest := []) h (.inl rfl)
    rw [List.append_nil, tokB_nil] at this
    rw [if_neg h, this]

/-- Elements that are neither void nor raw, without kids. -/
def emptied (n : Nd) : Nd := .mk n.kind n.name n.attrs n.text []
def plainE (n : Nd) : Bool := decide (n.kind = 1) && !rawB n.name.data.toList && !voidB n.name.data.toList
theorem bare_good {l : List Nd} (h : ∀ n ∈ l, nodeOK n) : GoodL ((l.filter plainE).map emptied) ∧ stL ((l.filter plainE).map emptied) = true := by
  have hp : ∀ x ∈ (l.filter plainE).map emptied, nodeOK x ∧ x.kind = 1 ∧ x.kids = [] := by
    intro x hx
    obtain ⟨n, hn, rfl⟩ := List.mem_map.1 hx
    obtain ⟨hn, hp⟩ := List.mem_filter.1 hn
    unfold plainE at hp
    rw [Bool.and_eq_true, Bool.and_eq_true, decide_eq_true_eq] at hp
    rcases h n hn with ⟨h1, h2, h3, h4⟩ | ⟨h1, _⟩
    · exact ⟨.inl ⟨h1, h2, h3, h4⟩, h1, rfl⟩
    · have := hp.1.1; omega
  have hs : ∀ (m : List Nd) (b : Bool), (∀ x ∈ m, x.kind = 1) → sides b m := by
    intro m
    induction m with
    | nil => intro _ _; trivial
    | cons x m ih =>
      intro b hm
      exact ⟨fun h2 => by have := hm x (by simp); omega, ih _ fun y hy => hm y (by simp [hy])⟩
  refine ⟨.mk _ (fun x hx => (hp x hx).1) (hs _ _ fun x hx => (hp x hx).2.1) (fun x hx => by rw [(hp x hx).2.2]; exact GoodL.nil), ?_⟩
  rw [stL_all, List.all_eq_true]
  intro x hx
  have h1 := hp x hx
  rw [stN_eq, h1.2.1, h1.2.2, stL_nil]
  rfl
def bareTags (n : Nd) : List Tk := [tkB n.name.data.toList n.attrs, tkE n.name.data.toList]
theorem bare_tags (l : List Nd) : tagsL ((l.filter plainE).map emptied) = (l.filter plainE).flatMap bareTags := by
  induction l with
  | nil => simp [tagsL_nil]
  | cons n l ih =>
    rw [List.filter_cons]
    split
    · rename_i hp
      unfold plainE at hp
      rw [Bool.and_eq_true, Bool.and_eq_true, decide_eq_true_eq] at hp
      rw [List.map_cons, tagsL_cons, ih, List.flatMap_cons, tagsN_eq]
      have hv : voidB n.name.data.toList = false := by simpa using hp.2
      show (if n.kind = 1 then tkB n.name.data.toList n.attrs :: (if voidB n.name.data.toList = true then [] else tagsL [] ++ [tkE n.name.data.toList]) else _) ++ _ = _
      rw [if_pos hp.1.1, hv, if_neg (by decide), tagsL_nil]
      rfl
    · exact ih
theorem tok_bare {l : List Nd} (h : ∀ n ∈ l, nodeOK n) : tokB (txtL false ((l.filter plainE).map emptied)) = (l.filter plainE).flatMap bareTags := by
  obtain ⟨h1, h2⟩ := bare_good h
  have := tok_write _ h1 h2 [] (.inl rfl)
  rw [List.append_nil, tokB_nil, List.append_nil] at this
  rw [this, bare_tags]

/-! ### what is passed over -/
/-- Without quotes. -/
def unq (c : UInt8) : Bool := !decide (c = 34) && !decide (c = 39)
theorem rt_unq {l : List UInt8} (h : isB l = true) : isB (l.filter unq) = true := by
  obtain ⟨L, hL, rfl⟩ := isB_chars _ _ (Nat.le_refl _) h
  clear h
  induction L with
  | nil => rfl
  | cons r L ih =>
    have hr := hL r (by simp)
    have h0 : 0 ≤ r := by have := hr.1; unfold okR at this; omega
    rw [enc_cons, List.filter_append]
    refine rt_app ?_ (ih fun x hx => hL x (by simp [hx]))
    by_cases h127 : r ≤ 127
    · rw [enc_one h0 h127, List.filter_cons]
      split
      · have := isB_enc [r] (fun x hx => by simp only [List.mem_singleton] at hx; subst hx; exact hr)
        rwa [enc_cons, enc_nil, List.append_nil, enc_one h0 h127] at this
      · rfl
    · have : (Lib.encodeRune r).filter unq = Lib.encodeRune r := by
        rw [List.filter_eq_self]
        intro c hc
        have h1 := enc_high hr.1 (by omega) c hc
        have h2 : c ≠ 34 := fun e => by subst e; exact absurd h1 (by decide)
        have h3 : c ≠ 39 := fun e => by subst e; exact absurd h1 (by decide)
        simp [unq, h2, h3]
      rw [this]
      have := isB_enc [r] (fun x hx => by simp only [List.mem_singleton] at hx; subst hx; exact hr)
      rwa [enc_cons, enc_nil, List.append_nil] at this
def blanksOne (v : List UInt8) : List UInt8 := [60, 97, 32, 120, 61, 34] ++ v ++ [34, 62]
def blanksTwo (v : List UInt8) : List UInt8 := [60, 65, 32, 10, 47, 32, 61, 32, 88, 9, 61, 32, 39] ++ v ++ [39, 32, 47, 32, 62]
theorem quote_val {q : UInt8} (hq : q = 34 ∨ q = 39) {v X : List UInt8} (hv : ∀ c ∈ v, c ≠ q) : valOf (q :: (v ++ q :: X)) = some (v, X) := by
  have hqq : neC q q = false := by simp [neC]
  have h := take_stop (p := neC q) (d := q) (X := X) (a := v) (fun c hc => by have := hv c hc; simp [neC, this]) hqq
  rw [valOf_cons, if_pos hq, if_pos (by simp), h.1, h.2]
  rfl
theorem blanks_one {v : List UInt8} (hv : ∀ c ∈ v, unq c = true) : tokB (blanksOne v) = [tkB [97] [(tB [120], tB (decB v))]] := by
  have h34 : ∀ c ∈ v, c ≠ 34 := fun c hc e => by have := hv c hc; subst e; cases this
  have e : blanksOne v = 60 :: 97 :: 32 :: 120 :: 61 :: 34 :: (v ++ 34 :: [62]) := by unfold blanksOne; simp
  have hat : attOf (120 :: 61 :: 34 :: (v ++ 34 :: [62])) = some ((tB [120], tB (decB v)), [62]) := by
    rw [attOf_eq (show behind (120 :: 61 :: 34 :: (v ++ 34 :: [62])) = 61 :: (34 :: (v ++ 34 :: [62])) from rfl)]
    have hv1 : valOf ((34 :: (v ++ 34 :: [62])).dropWhile blC) = some (v, [62]) := quote_val (.inl rfl) h34
    rw [hv1]
    rfl
  have hatts : attsOf [] ((97 :: 32 :: 120 :: 61 :: 34 :: (v ++ 34 :: [62])).dropWhile tagC) = some ([(tB [120], tB (decB v))], []) := by
    show attsOf [] (32 :: 120 :: 61 :: 34 :: (v ++ 34 :: [62])) = _
    rw [attsOf_skip [] _ (by decide) (by decide), attsOf_some [] (by decide) hat, attsOf_end]
    rfl
  have htg : tagB (60 :: 97 :: 32 :: 120 :: 61 :: 34 :: (v ++ 34 :: [62])) = (some (tkB [97] [(tB [120], tB (decB v))]), []) := by
    rw [tagB_letter (by decide), hatts]
    rfl
  have hraw : rawTk (tkB [97] [(tB [120], tB (decB v))]) = false := by
    unfold rawTk tkB
    rw [tB_list]
    rfl
  rw [e, tokB_tag (k := tkB [97] [(tB [120], tB (decB v))]) rfl (by rw [htg]) hraw, htg, tokB_nil]
theorem blanks_two {v : List UInt8} (hv : ∀ c ∈ v, unq c = true) : tokB (blanksTwo v) = [tkB [97] [(tB [120], tB (decB v))]] := by
  have h39 : ∀ c ∈ v, c ≠ 39 := fun c hc e => by have := hv c hc; subst e; cases this
  have e : blanksTwo v = 60 :: 65 :: 32 :: 10 :: 47 :: 32 :: 61 :: 32 :: 88 :: 9 :: 61 :: 32 :: 39 :: (v ++ 39 :: [32, 47, 32, 62]) := by unfold blanksTwo; simp
  have hat : attOf (88 :: 9 :: 61 :: 32 :: 39 :: (v ++ 39 :: [32, 47, 32, 62])) = some ((tB [120], tB (decB v)), [32, 47, 32, 62]) := by
    rw [attOf_eq (show behind (88 :: 9 :: 61 :: 32 :: 39 :: (v ++ 39 :: [32, 47, 32, 62])) = 61 :: (32 :: 39 :: (v ++ 39 :: [32, 47, 32, 62])) from rfl)]
    have hv1 : valOf ((32 :: 39 :: (v ++ 39 :: [32, 47, 32, 62])).dropWhile blC) = some (v, [32, 47, 32, 62]) := quote_val (.inr rfl) h39
    rw [hv1]
    rfl
  have hatts : attsOf [] ((65 :: 32 :: 10 :: 47 :: 32 :: 61 :: 32 :: 88 :: 9 :: 61 :: 32 :: 39 :: (v ++ 39 :: [32, 47, 32, 62])).dropWhile tagC) = some ([(tB [120], tB (decB v))], []) := by
    show attsOf [] (32 :: 10 :: 47 :: 32 :: 61 :: 32 :: 88 :: 9 :: 61 :: 32 :: 39 :: (v ++ 39 :: [32, 47, 32, 62])) = _
    rw [attsOf_skip [] _ (by decide) (by decide), attsOf_skip [] _ (by decide) (by decide), attsOf_skip [] _ (by decide) (by decide), attsOf_skip [] _ (by decide) (by decide), attsOf_skip [] _ (by decide) (by decide), attsOf_skip [] _ (by decide) (by decide),
      attsOf_some [] (by decide) hat]
    show attsOf (addA [] (tB [120], tB (decB v))) [32, 47, 32, 62] = _
    rw [attsOf_skip _ _ (by decide) (by decide), attsOf_skip _ _ (by decide) (by decide), attsOf_skip _ _ (by decide) (by decide), attsOf_end]
    rfl
  have htg : tagB (60 :: 65 :: 32 :: 10 :: 47 :: 32 :: 61 :: 32 :: 88 :: 9 :: 61 :: 32 :: 39 :: (v ++ 39 :: [32, 47, 32, 62])) = (some (tkB [97] [(tB [120], tB (decB v))]), []) := by
    rw [tagB_letter (by decide), hatts]
    rfl
  have hraw : rawTk (tkB [97] [(tB [120], tB (decB v))]) = false := by
    unfold rawTk tkB
    rw [tB_list]
    rfl
  rw [e, tokB_tag (k := tkB [97] [(tB [120], tB (decB v))]) rfl (by rw [htg]) hraw, htg, tokB_nil]

end Go.Proofs.Ytialfafjoemppaa
