/- Parts of the proof, in build order: BldM EndM One. -/
import Derived.Test.YtoidjkkjnhnbhaaK04
import Derived.Test.YtoidjkkjnhnbhaaK01

/- Part BldM. -/
namespace Go.Proofs.Ytoidjkkjnhnbhaa
set_option linter.unusedVariables false
set_option linter.unusedSimpArgs false

/-- An open element: what its beginning told, and what stands in it so far. -/
structure Fr where
  name : ByteArray
  attrs : List (ByteArray × ByteArray)
  kids : List Nd
/-- A builder: the open elements, the innermost first; what stands outside of all. -/
structure Bst where
  fs : List Fr
  out : List Nd
def nodeOf (f : Fr) : Nd := .mk 1 f.name f.attrs (tB []) f.kids
/-- One node more, where nodes go. -/
def addTo : Bst → Nd → Bst
  | ⟨[], out⟩, n => ⟨[], mstep out n⟩
  | ⟨f :: fs, out⟩, n => ⟨⟨f.name, f.attrs, mstep f.kids n⟩ :: fs, out⟩
/-- The innermost element is no more open. -/
def popB : Bst → Bst
  | ⟨[], out⟩ => ⟨[], out⟩
  | ⟨f :: fs, out⟩ => addTo ⟨fs, out⟩ (nodeOf f)
def popN : Nat → Bst → Bst
  | 0, s => s
  | n + 1, s => popN n (popB s)
def textN (t : ByteArray) : Nd := .mk 2 (tB []) [] t []
def remN (t : ByteArray) : Nd := .mk 3 (tB []) [] t []
def shutBy (nm : List UInt8) (f : Fr) : Bool := closesB f.name.data.toList nm
def notNamed (nm : ByteArray) (f : Fr) : Bool := !decide (f.name = nm)
/-- A token is built. -/
def putB (s : Bst) (k : Tk) : Bst :=
  if k.kind = 1 then
    (let s' := popN (s.fs.takeWhile (shutBy k.name.data.toList)).length s
     if voidB k.name.data.toList = true then addTo s' (.mk 1 k.name k.attrs (tB []) []) else ⟨⟨k.name, k.attrs, []⟩ :: s'.fs, s'.out⟩)
  else if k.kind = 2 then (if s.fs.all (notNamed k.name) = true then s else popN ((s.fs.takeWhile (notNamed k.name)).length + 1) s)
  else if k.kind = 3 then addTo s (textN k.text)
  else if k.kind = 4 then addTo s (remN k.text)
  else s
def nodesB (s : Bst) : List Nd := (popN s.fs.length s).out
def treeB (l : List Tk) : List Nd := nodesB (l.foldl putB ⟨[], []⟩)
/-- A text, parsed. -/
def parseB (l : List UInt8) : List Nd := treeB (tokB l)

/-! ### nodes' tags, built -/
def inner : Bst → List Nd
  | ⟨[], out⟩ => out
  | ⟨f :: _, _⟩ => f.kids
def setIn : Bst → List Nd → Bst
  | ⟨[], _⟩, l => ⟨[], l⟩
  | ⟨f :: fs, out⟩, l => ⟨⟨f.name, f.attrs, l⟩ :: fs, out⟩
theorem addTo_eq (s : Bst) (n : Nd) : addTo s n = setIn s (mstep (inner s) n) := by
  obtain ⟨fs, out⟩ := s
  cases fs <;> rfl
theorem setIn_setIn (s : Bst) (a b : List Nd) : setIn (setIn s a) b = setIn s b := by
  obtain ⟨fs, out⟩ := s
  cases fs <;> rfl
theorem inner_setIn (s : Bst) (a : List Nd) : inner (setIn s a) = a := by
  obtain ⟨fs, out⟩ := s
  cases fs <;> rfl
theorem setIn_inner (s : Bst) : setIn s (inner s) = s := by
  obtain ⟨fs, out⟩ := s
  cases fs <;> rfl
/-- Nothing of l closes the innermost element. -/
def openFor (s : Bst) (l : List Nd) : Prop := ∀ f fs, s.fs = f :: fs → ∀ n ∈ l, n.kind = 1 → closesB f.name.data.toList n.name.data.toList = false
theorem openFor_setIn {s : Bst} {l a : List Nd} (h : openFor s l) : openFor (setIn s a) l := by
  obtain ⟨fs, out⟩ := s
  cases fs with
  | nil => intro f fs h'; cases h'
  | cons g gs =>
    intro f fs h' n hn hk
    injection h' with h1 _
    subst h1
    exact h g gs rfl n hn hk

theorem mstep_app {l : List Nd} {n : Nd} (h : n.kind = 2 → n.text.data.toList ≠ [] ∧ lastText l = false) : mstep l n = l ++ [n] := by
  unfold mstep
  by_cases h2 : n.kind = 2
  · obtain ⟨h3, h4⟩ := h h2
    rw [if_neg (fun e => h3 e.2), if_neg (fun e => by rw [h4] at e; cases e.2)]
  · rw [if_neg (fun e => h2 e.1), if_neg (fun e => h2 e.1)]

theorem nd_ext {a b : Nd} (h1 : a.kind = b.kind) (h2 : a.name = b.name) (h3 : a.attrs = b.attrs) (h4 : a.text = b.text) (h5 : a.kids = b.kids) : a = b := by
  cases a
  cases b
  simp only [Nd.kind, Nd.name, Nd.attrs, Nd.text, Nd.kids] at h1 h2 h3 h4 h5
  subst h1 h2 h3 h4 h5
  rfl
theorem text_nil {s : ByteArray} (h : s.data.toList = []) : s = tB [] := tB_eq h

/-- One node's tags. -/
theorem put_node {x : Nd} (hok : nodeOK x) (hst : stN x = true) (hvoid : voidB x.name.data.toList = true → x.kids = [])
    (hkids : ∀ s, openFor s x.kids → (∀ n, x.kids.head? = some n → n.kind = 2 → lastText (inner s) = false) → (tagsL x.kids).foldl putB s = setIn s (inner s ++ x.kids))
    (s : Bst) (ho : openFor s [x]) (hr : x.kind = 2 → x.text.data.toList ≠ [] ∧ lastText (inner s) = false) : (tagsN x).foldl putB s = setIn s (inner s ++ [x]) := by
  have happ := mstep_app hr
  rcases hok with ⟨h1, hn, ht, ha⟩ | ⟨h23, hn, ha, hk, _⟩
  · have hno : s.fs.takeWhile (shutBy x.name.data.toList) = [] := by
      cases hs : s.fs with
      | nil => rfl
      | cons f fs =>
        have := ho f fs hs x (by simp) h1
        rw [List.takeWhile_cons, if_neg (by unfold shutBy; rw [this]; decide)]
    have hkn : (tkB x.name.data.toList x.attrs).name = x.name := tB_of _
    rw [tagsN_eq, if_pos h1]
    cases hv : voidB x.name.data.toList with
    | true =>
      rw [if_pos rfl]
      show putB s (tkB x.name.data.toList x.attrs) = _
      unfold putB
      rw [if_pos (show (tkB x.name.data.toList x.attrs).kind = 1 from rfl), hkn, hno]
      show (if voidB x.name.data.toList = true then addTo s (.mk 1 x.name x.attrs (tB []) []) else _) = _
      rw [if_pos hv, addTo_eq]
      have hx : Nd.mk 1 x.name x.attrs (tB []) [] = x := nd_ext h1.symm rfl rfl (text_nil ht).symm (hvoid hv).symm
      rw [hx, happ]
    | false =>
      rw [if_neg (by decide)]
      have hput : putB s (tkB x.name.data.toList x.attrs) = ⟨⟨x.name, x.attrs, []⟩ :: s.fs, s.out⟩ := by
        unfold putB
        rw [if_pos (show (tkB x.name.data.toList x.attrs).kind = 1 from rfl), hkn, hno]
        show (if voidB x.name.data.toList = true then _ else (⟨⟨x.name, x.attrs, []⟩ :: s.fs, s.out⟩ : Bst)) = _
        rw [if_neg (by rw [hv]; decide)]
      rw [List.foldl_cons, hput, List.foldl_append]
      have hfit : openFor ⟨⟨x.name, x.attrs, []⟩ :: s.fs, s.out⟩ x.kids := by
        intro f fs hf n hnk hk1
        injection hf with hf1 _
        subst hf1
        rw [stN_eq, Bool.and_eq_true, Bool.and_eq_true] at hst
        have := List.all_eq_true.1 hst.1.2 n hnk
        unfold fitsB at this
        rw [hv, if_neg (by decide)] at this
        split at this
        · rw [Bool.and_eq_true, decide_eq_true_eq] at this
          omega
        · rw [Bool.or_eq_true] at this
          rcases this with h | h
          · simp [hk1] at h
          · simpa using h
      rw [hkids _ hfit (fun _ _ _ => rfl)]
      show putB ⟨⟨x.name, x.attrs, [] ++ x.kids⟩ :: s.fs, s.out⟩ (tkE x.name.data.toList) = _
      have hen : (tkE x.name.data.toList).name = x.name := tB_of _
      have hnn : notNamed x.name (⟨x.name, x.attrs, [] ++ x.kids⟩ : Fr) = false := by simp [notNamed]
      unfold putB
      rw [if_neg (show ¬ (tkE x.name.data.toList).kind = 1 by show ¬ (2 : Int) = 1; decide), if_pos (show (tkE x.name.data.toList).kind = 2 from rfl), hen]
      show (if ((⟨x.name, x.attrs, [] ++ x.kids⟩ : Fr) :: s.fs).all (notNamed x.name) = true then _ else popN ((((⟨x.name, x.attrs, [] ++ x.kids⟩ : Fr) :: s.fs).takeWhile (notNamed x.name)).length + 1) _) = _
      rw [if_neg (by rw [List.all_cons, hnn, Bool.false_and]; decide), List.takeWhile_cons, if_neg (by rw [hnn]; decide)]
      show addTo ⟨s.fs, s.out⟩ (nodeOf ⟨x.name, x.attrs, [] ++ x.kids⟩) = _
      have hx : nodeOf ⟨x.name, x.attrs, [] ++ x.kids⟩ = x := nd_ext h1.symm rfl rfl (text_nil ht).symm rfl
      rw [hx, addTo_eq, happ]
  · have hnm := text_nil hn
    rcases h23 with h2 | h3
    · rw [tagsN_eq, if_neg (by omega), if_pos h2]
      have hx : textN (tB x.text.data.toList) = x := nd_ext h2.symm hnm.symm ha.symm (tB_of _) hk.symm
      show addTo s (textN (tB x.text.data.toList)) = _
      rw [hx, addTo_eq, happ]
    · rw [tagsN_eq, if_neg (by omega), if_neg (by omega), if_pos h3]
      have hx : remN (tB x.text.data.toList) = x := nd_ext h3.symm hnm.symm ha.symm (tB_of _) hk.symm
      show addTo s (remN (tB x.text.data.toList)) = _
      rw [hx, addTo_eq, happ]

theorem void_kids {x : Nd} (hst : stN x = true) (hv : voidB x.name.data.toList = true) : x.kids = [] := by
  rw [stN_eq, Bool.and_eq_true, Bool.and_eq_true] at hst
  cases hk : x.kids with
  | nil => rfl
  | cons n l =>
    have := List.all_eq_true.1 hst.1.2 n (by rw [hk]; simp)
    unfold fitsB at this
    rw [if_pos hv] at this
    cases this

theorem put_tags : ∀ l : List Nd, GoodL l → stL l = true → ∀ s, openFor s l → (∀ n, l.head? = some n → n.kind = 2 → lastText (inner s) = false) → (tagsL l).foldl putB s = setIn s (inner s ++ l) := by
  intro l
  induction l using nd_ind with
  | h l ih =>
    intro hg hst
    have key : ∀ m : List Nd, (∀ x ∈ m, nodeOK x) → (∀ x ∈ m, stN x = true) →
        (∀ x ∈ m, ∀ s, openFor s x.kids → (∀ n, x.kids.head? = some n → n.kind = 2 → lastText (inner s) = false) → (tagsL x.kids).foldl putB s = setIn s (inner s ++ x.kids)) →
        ∀ b, sides b m → ∀ s, openFor s m → (∀ n, m.head? = some n → n.kind = 2 → lastText (inner s) = false) → (tagsL m).foldl putB s = setIn s (inner s ++ m) := by
      intro m
      induction m with
      | nil => intro _ _ _ b _ s _ _; rw [tagsL_nil, List.append_nil, setIn_inner]; rfl
      | cons x m ihm =>
        intro h1 h2 h3 b hs s ho hh
        rw [tagsL_cons, List.foldl_append, put_node (h1 x (by simp)) (h2 x (by simp)) (void_kids (h2 x (by simp))) (h3 x (by simp)) s (fun f fs hf n hn => ho f fs hf n (by simp only [List.mem_singleton] at hn; subst hn; simp)) (fun hk => ⟨(hs.1 hk).1, hh x rfl hk⟩)]
        rw [ihm (fun y hy => h1 y (by simp [hy])) (fun y hy => h2 y (by simp [hy])) (fun y hy => h3 y (by simp [hy])) _ hs.2 _ ?_ ?_, setIn_setIn, inner_setIn, List.append_assoc]
        · rfl
        · refine openFor_setIn fun f fs hf n hn => ho f fs hf n (by simp [hn])
        · intro n hn hk
          rw [inner_setIn, lastText_snoc]
          cases m with
          | nil => cases hn
          | cons y m =>
            injection hn with hn
            subst hn
            exact (hs.2.1 hk).2
    rw [stL_all, List.all_eq_true] at hst
    refine key l hg.nodes (fun x hx => hst x hx) (fun x hx => ?_) false hg.sides_
    obtain ⟨i, hi, he⟩ := List.mem_iff_getElem.1 hx
    have hsx := hst x hx
    rw [stN_eq, Bool.and_eq_true] at hsx
    exact ih i x (by rw [List.getElem?_eq_getElem hi, he]) (hg.kids x hx) hsx.2

/-- Stable nodes' tags are built as the nodes. -/
theorem tree_tags {l : List Nd} (hg : GoodL l) (hst : stL l = true) : treeB (tagsL l) = l := by
  unfold treeB
  rw [put_tags l hg hst ⟨[], []⟩ (fun f fs h => by cases h) (fun _ _ _ => rfl)]
  rfl
/-- Stable nodes, written and parsed, are as they were. -/
theorem parse_write {l : List Nd} (hg : GoodL l) (hst : stL l = true) : parseB (txtL false l) = l := by
  unfold parseB
  have := tok_write l hg hst [] (.inl rfl)
  rw [List.append_nil, tokB_nil, List.append_nil] at this
  rw [this, tree_tags hg hst]

/-! ### whatever is built -/
/-- A builder's open elements are as they should be. -/
def frOK (f : Fr) : Prop := namedB f.name.data.toList = true ∧ attrsOK f.attrs ∧ voidB f.name.data.toList = false ∧ GoodL f.kids ∧ stL f.kids = true ∧ f.kids.all (fitsB f.name.data.toList) = true
def chainOK : List Fr → Prop
  | [] => True
  | [_] => True
  | f :: g :: fs => rawB g.name.data.toList = false ∧ closesB g.name.data.toList f.name.data.toList = false ∧ chainOK (g :: fs)
structure BOK (s : Bst) : Prop where
  fr : ∀ f ∈ s.fs, frOK f
  ch : chainOK s.fs
  out : GoodL s.out
  st : stL s.out = true
/-- What may come, if the innermost element is raw. -/
def rawCome (s : Bst) (l : List Tk) : Prop := ∀ f fs, s.fs = f :: fs → rawB f.name.data.toList = true →
  (f.kids = [] ∧ rawNext f.name.data.toList l) ∨ (∃ t, f.kids = [textN t] ∧ (l = [] ∨ ∃ l', l = tkE f.name.data.toList :: l'))

theorem node_ok {f : Fr} (h : frOK f) : nodeOK (nodeOf f) ∧ GoodL (nodeOf f).kids ∧ stN (nodeOf f) = true := by
  refine ⟨.inl ⟨rfl, h.1, tB_list _, h.2.1⟩, h.2.2.2.1, ?_⟩
  rw [stN_eq]
  show ((!decide ((1 : Int) = 3) || _) && f.kids.all (fitsB f.name.data.toList) && stL f.kids) = true
  rw [h.2.2.2.2.1, h.2.2.2.2.2]
  rfl
theorem stN_glue {x : Nd} {t : ByteArray} (h2 : x.kind = 2) (h : stN x = true) : stN (.mk x.kind x.name x.attrs (x.text ++ t) x.kids) = true := by
  rw [stN_eq] at h ⊢
  show ((!decide (x.kind = 3) || _) && x.kids.all (fitsB x.name.data.toList) && stL x.kids) = true
  rw [h2] at h ⊢
  simpa using h
theorem mstep_st {l : List Nd} {n : Nd} (h : stL l = true) (hn : stN n = true) : stL (mstep l n) = true := by
  unfold mstep
  split
  · exact h
  · split
    · rename_i h2
      have hne : 0 < l.length := by
        rcases Nat.eq_zero_or_pos l.length with h0 | h0
        · have := List.eq_nil_of_length_eq_zero h0
          subst this
          cases h2.2
        · exact h0
      obtain ⟨m, x, rfl⟩ := snoc_of hne
      rw [lastText_snoc] at h2
      rw [mglue_snoc, stL_append]
      rw [stL_append, stL_cons, stL_nil, Bool.and_true, Bool.and_eq_true] at h
      rw [stL_cons, stL_nil, Bool.and_true, h.1, Bool.true_and]
      exact stN_glue (by simpa using h2.2) h.2
    · rw [stL_append, h, stL_cons, stL_nil, hn]
      rfl
theorem mstep_fits {p : List UInt8} {l : List Nd} {n : Nd} (hr : rawB p = false) (h : l.all (fitsB p) = true) (hn : fitsB p n = true) : (mstep l n).all (fitsB p) = true := by
  unfold mstep
  split
  · exact h
  · split
    · rename_i h2
      have hne : 0 < l.length := by
        rcases Nat.eq_zero_or_pos l.length with h0 | h0
        · have := List.eq_nil_of_length_eq_zero h0
          subst this
          cases h2.2
        · exact h0
      obtain ⟨m, x, rfl⟩ := snoc_of hne
      rw [lastText_snoc] at h2
      rw [mglue_snoc, List.all_append]
      rw [List.all_append, Bool.and_eq_true] at h
      rw [h.1]
      have hx : fitsB p x = true := by simpa using h.2
      have hx2 : x.kind = 2 := by simpa using h2.2
      have : fitsB p (.mk x.kind x.name x.attrs (x.text ++ n.text) x.kids) = true := by
        unfold fitsB at hx ⊢
        rw [hr] at hx ⊢
        split at hx
        · cases hx
        · rename_i hv
          rw [if_neg hv, if_neg (by decide)]
          show (!decide (x.kind = 1) || _) = true
          rw [hx2]
          rfl
      simp [this]
    · rw [List.all_append, h]
      simp [hn]
theorem addTo_ok {s : Bst} {n : Nd} (h : BOK s) (hn : nodeOK n) (hk : GoodL n.kids) (hst : stN n = true) (hf : ∀ f fs, s.fs = f :: fs → rawB f.name.data.toList = false ∧ fitsB f.name.data.toList n = true) : BOK (addTo s n) := by
  obtain ⟨fs, out⟩ := s
  cases fs with
  | nil => exact ⟨(fun f hf => by cases hf), trivial, mstep_good h.out hn hk, mstep_st h.st hst⟩
  | cons f fs =>
    have h0 := h.fr f (by simp)
    have h1 := hf f fs rfl
    refine ⟨fun g hg => ?_, ?_, h.out, h.st⟩
    · rcases List.mem_cons.1 hg with rfl | hg
      · exact ⟨h0.1, h0.2.1, h0.2.2.1, mstep_good h0.2.2.2.1 hn hk, mstep_st h0.2.2.2.2.1 hst, mstep_fits h1.1 h0.2.2.2.2.2 h1.2⟩
      · exact h.fr g (List.mem_cons_of_mem _ hg)
    · have := h.ch
      cases fs with
      | nil => trivial
      | cons g gs => exact ⟨this.1, this.2.1, this.2.2⟩
theorem addTo_names (s : Bst) (n : Nd) : (addTo s n).fs.map Fr.name = s.fs.map Fr.name := by
  obtain ⟨fs, out⟩ := s
  cases fs <;> rfl
/-- The innermost element closed. -/
theorem pop_ok {s : Bst} (h : BOK s) : BOK (popB s) := by
  obtain ⟨fs, out⟩ := s
  cases fs with
  | nil => exact h
  | cons f fs =>
    have h0 := h.fr f (by simp)
    obtain ⟨a, b, c⟩ := node_ok h0
    refine addTo_ok ⟨fun g hg => h.fr g (List.mem_cons_of_mem _ hg), ?_, h.out, h.st⟩ a b c fun g gs hg => ?_
    · have := h.ch
      cases fs with
      | nil => trivial
      | cons g gs => exact this.2.2
    · have hch := h.ch
      have hfs : fs = g :: gs := hg
      subst hfs
      have hg0 := h.fr g (by simp)
      refine ⟨hch.1, ?_⟩
      unfold fitsB
      rw [hg0.2.2.1, if_neg (by decide), hch.1, if_neg (by decide)]
      show (!decide ((1 : Int) = 1) || !closesB g.name.data.toList f.name.data.toList) = true
      rw [hch.2.1]
      rfl
theorem popN_ok : ∀ (n : Nat) {s : Bst}, BOK s → BOK (popN n s)
  | 0, s, h => h
  | n + 1, s, h => popN_ok n (pop_ok h)
theorem pop_names (s : Bst) : (popB s).fs.map Fr.name = (s.fs.map Fr.name).drop 1 := by
  obtain ⟨fs, out⟩ := s
  cases fs with
  | nil => rfl
  | cons f fs => exact addTo_names _ _
theorem popN_names : ∀ (n : Nat) (s : Bst), (popN n s).fs.map Fr.name = (s.fs.map Fr.name).drop n
  | 0, s => by rw [List.drop_zero]; rfl
  | n + 1, s => by
    show (popN n (popB s)).fs.map Fr.name = _
    rw [popN_names n, pop_names, List.drop_drop, Nat.add_comm]
/-- Behind a pop the innermost element is not raw. -/
theorem chain_names : ∀ {fs gs : List Fr}, fs.map Fr.name = gs.map Fr.name → chainOK fs → chainOK gs
  | [], [], _, _ => trivial
  | [], _ :: _, h, _ => by cases h
  | _ :: _, [], h, _ => by cases h
  | [_], [_], _, _ => trivial
  | [_], _ :: _ :: _, h, _ => by simp at h
  | _ :: _ :: _, [_], h, _ => by simp at h
  | f :: f' :: fs, g :: g' :: gs, h, hc => by
    simp only [List.map_cons] at h
    injection h with h1 h
    have h' := h
    injection h with h2 h
    exact ⟨by rw [← h2]; exact hc.1, by rw [← h2, ← h1]; exact hc.2.1, chain_names (fs := f' :: fs) (gs := g' :: gs) h' hc.2.2⟩
theorem chain_drop : ∀ (n : Nat) {fs : List Fr}, chainOK fs → 0 < n → ∀ f gs, fs.drop n = f :: gs → rawB f.name.data.toList = false
  | 0, _, _, h, _, _, _ => by omega
  | n + 1, [], _, _, f, gs, h => by cases h
  | n + 1, [x], _, _, f, gs, h => by
    rw [List.drop_succ_cons] at h
    cases n <;> cases h
  | 1, x :: y :: fs, hc, _, f, gs, h => by
    injection h with h1 _
    subst h1
    exact hc.1
  | n + 2, x :: y :: fs, hc, _, f, gs, h => chain_drop (n + 1) hc.2.2 (by omega) f gs (by rw [List.drop_succ_cons] at h; exact h)
theorem names_head {fs : List Fr} {gs : List Fr} {f : Fr} {fs' : List Fr} (h : fs.map Fr.name = gs.map Fr.name) (hf : fs = f :: fs') : ∃ g gs', gs = g :: gs' ∧ g.name = f.name := by
  subst hf
  cases gs with
  | nil => cases h
  | cons g gs' =>
    injection h with h1 _
    exact ⟨g, gs', rfl, h1.symm⟩
theorem pop_noraw {n : Nat} {s : Bst} (h : BOK s) (hn : 0 < n) : ∀ f fs, (popN n s).fs = f :: fs → rawB f.name.data.toList = false := by
  intro f fs hf
  have hnm := popN_names n s
  rw [← List.map_drop] at hnm
  obtain ⟨g, gs, hg, he⟩ := names_head hnm hf
  rw [← he]
  exact chain_drop n h.ch hn g gs hg

theorem fits_remark {p : List UInt8} (hv : voidB p = false) (hr : rawB p = false) (n : Nd) (h : n.kind ≠ 1) : fitsB p n = true := by
  unfold fitsB
  rw [hv, if_neg (by decide), hr, if_neg (by decide)]
  simp [h]
theorem rawCome_of {s : Bst} {l : List Tk} (h : ∀ f fs, s.fs = f :: fs → rawB f.name.data.toList = false) : rawCome s l := fun f fs hf hr => by rw [h f fs hf] at hr; cases hr
/-- Where the next token is neither an end nor characters, the innermost element is not raw. -/
theorem come_noraw {s : Bst} {k : Tk} {l : List Tk} (h : rawCome s (k :: l)) (h2 : k.kind ≠ 2) (h3 : k.kind ≠ 3) : ∀ f fs, s.fs = f :: fs → rawB f.name.data.toList = false := by
  intro f fs hf
  cases hr : rawB f.name.data.toList with
  | false => rfl
  | true =>
    exfalso
    rcases h f fs hf hr with ⟨_, hn⟩ | ⟨t, _, hn⟩
    · rcases hn with hn | ⟨l', hn⟩ | ⟨t, l', hn, _⟩
      · cases hn
      · injection hn with hn _; subst hn; exact h2 rfl
      · injection hn with hn _; subst hn; exact h3 rfl
    · rcases hn with hn | ⟨l', hn⟩
      · cases hn
      · injection hn with hn _; subst hn; exact h2 rfl
theorem tw_stop {p : Fr → Bool} : ∀ {fs : List Fr} {f : Fr} {gs : List Fr}, fs.drop (fs.takeWhile p).length = f :: gs → p f = false
  | [], f, gs, h => by cases h
  | x :: fs, f, gs, h => by
    rw [List.takeWhile_cons] at h
    split at h
    · rw [List.length_cons, List.drop_succ_cons] at h
      exact tw_stop h
    · rename_i hx
      injection h with h1 _
      subst h1
      simpa using hx

theorem put_ok {s : Bst} {k : Tk} {l : List Tk} (h : BOK s) (hc : rawCome s (k :: l)) (hs : seqOK (k :: l)) : BOK (putB s k) ∧ rawCome (putB s k) l := by
  obtain ⟨hk, hraw, hsl⟩ := hs
  rcases hk with ⟨h1, hn, ha, ht⟩ | ⟨h2, hn, ha, ht⟩ | ⟨h3, hn, ha, htn, ht⟩ | ⟨h4, hn, ha, ht, hno⟩
  · -- a beginning
    have hnr := come_noraw hc (by omega) (by omega)
    obtain ⟨c, hcnt⟩ : ∃ c, (s.fs.takeWhile (shutBy k.name.data.toList)).length = c := ⟨_, rfl⟩
    have hpo := popN_ok c h
    have hnr' : ∀ f fs, (popN c s).fs = f :: fs → rawB f.name.data.toList = false := by
      rcases Nat.eq_zero_or_pos c with h0 | h0
      · subst h0; exact hnr
      · exact pop_noraw h h0
    have hcl : ∀ f fs, (popN c s).fs = f :: fs → closesB f.name.data.toList k.name.data.toList = false := by
      intro f fs hf
      have hnm := popN_names c s
      rw [← List.map_drop] at hnm
      obtain ⟨g, gs, hg, he⟩ := names_head hnm hf
      rw [← hcnt] at hg
      have := tw_stop hg
      unfold shutBy at this
      rw [← he]
      exact this
    have hput : putB s k = if voidB k.name.data.toList = true then addTo (popN c s) (.mk 1 k.name k.attrs (tB []) []) else ⟨⟨k.name, k.attrs, []⟩ :: (popN c s).fs, (popN c s).out⟩ := by
      unfold putB
      rw [if_pos h1, hcnt]
    rw [hput]
    cases hv : voidB k.name.data.toList with
    | true =>
      rw [if_pos rfl]
      have hN : stN (.mk 1 k.name k.attrs (tB []) []) = true := by rw [stN_eq]; rfl
      refine ⟨addTo_ok hpo (.inl ⟨rfl, hn, tB_list _, ha⟩) GoodL.nil hN fun f fs hf => ⟨hnr' f fs hf, ?_⟩, rawCome_of fun f fs hf => ?_⟩
      · unfold fitsB
        rw [(hpo.fr f (by rw [hf]; simp)).2.2.1, if_neg (by decide), hnr' f fs hf, if_neg (by decide)]
        show (!decide ((1 : Int) = 1) || !closesB f.name.data.toList k.name.data.toList) = true
        rw [hcl f fs hf]
        rfl
      · obtain ⟨g, gs, hg, he⟩ := names_head (addTo_names _ _) hf
        rw [← he]
        exact hnr' g gs hg
    | false =>
      rw [if_neg (by decide)]
      refine ⟨⟨fun f hf => ?_, ?_, hpo.out, hpo.st⟩, fun f fs hf hr => ?_⟩
      · rcases List.mem_cons.1 hf with rfl | hf
        · exact ⟨hn, ha, hv, GoodL.nil, stL_nil, rfl⟩
        · exact hpo.fr f hf
      · show chainOK (⟨k.name, k.attrs, []⟩ :: (popN c s).fs)
        cases hfs : (popN c s).fs with
        | nil => trivial
        | cons g gs =>
          refine ⟨hnr' g gs hfs, hcl g gs hfs, ?_⟩
          rw [← hfs]
          exact hpo.ch
      · injection hf with hf _
        subst hf
        exact .inl ⟨rfl, hraw (by unfold rawTk; rw [h1]; simpa using hr)⟩
  · -- an end
    have hput : putB s k = if s.fs.all (notNamed k.name) = true then s else popN ((s.fs.takeWhile (notNamed k.name)).length + 1) s := by
      unfold putB
      rw [if_neg (by omega), if_pos h2]
    rw [hput]
    split
    · rename_i hall
      refine ⟨h, rawCome_of fun f fs hf => ?_⟩
      cases hr : rawB f.name.data.toList with
      | false => rfl
      | true =>
        exfalso
        have hnk : notNamed k.name f = true := List.all_eq_true.1 hall f (by rw [hf]; simp)
        have key : ∀ l', (k :: l) = tkE f.name.data.toList :: l' → False := by
          intro l' he
          injection he with he _
          have : k.name = f.name := by rw [he]; exact tB_of _
          simp [notNamed, this] at hnk
        rcases hc f fs hf hr with ⟨_, hn'⟩ | ⟨t, _, hn'⟩
        · rcases hn' with hn' | ⟨l', hn'⟩ | ⟨t, l', hn', _⟩
          · cases hn'
          · exact key l' hn'
          · injection hn' with hn' _
            rw [hn'] at h2
            cases h2
        · rcases hn' with hn' | ⟨l', hn'⟩
          · cases hn'
          · exact key l' hn'
    · exact ⟨popN_ok _ h, rawCome_of (pop_noraw h (by omega))⟩
  · -- characters
    have hput : putB s k = addTo s (textN k.text) := by
      unfold putB
      rw [if_neg (by omega), if_neg (by omega), if_pos h3]
    rw [hput]
    have hN : nodeOK (textN k.text) := .inr ⟨.inl rfl, tB_list _, rfl, rfl, ht⟩
    have hS : stN (textN k.text) = true := by rw [stN_eq]; rfl
    obtain ⟨fs, out⟩ := s
    cases fs with
    | nil => exact ⟨addTo_ok h hN GoodL.nil hS (fun f fs hf => by cases hf), fun f fs hf => by cases hf⟩
    | cons f fs =>
      have hf0 := h.fr f (by simp)
      cases hr : rawB f.name.data.toList with
      | false =>
        refine ⟨addTo_ok h hN GoodL.nil hS fun g gs hg => ?_, rawCome_of fun g gs hg => ?_⟩
        · injection hg with hg _
          subst hg
          exact ⟨hr, fits_remark hf0.2.2.1 hr _ (by show (2 : Int) ≠ 1; decide)⟩
        · injection hg with hg _
          rw [← hg]
          exact hr
      | true =>
        rcases hc f fs rfl hr with ⟨hke, hn'⟩ | ⟨t, _, hn'⟩
        · rcases hn' with hn' | ⟨l', hn'⟩ | ⟨t, l', hn', hok, hl'⟩
          · cases hn'
          · injection hn' with hn' _
            rw [hn'] at h3
            cases h3
          · injection hn' with hkt hll
            subst hll
            have htx : k.text = tB t := by rw [hkt]; rfl
            have htl : k.text.data.toList = t := by rw [htx, tB_list]
            have hms : mstep f.kids (textN k.text) = [textN k.text] := by
              rw [hke, mstep_app (n := textN k.text) (fun _ => ⟨htn, rfl⟩)]
              rfl
            have hadd : addTo ⟨f :: fs, out⟩ (textN k.text) = ⟨⟨f.name, f.attrs, [textN k.text]⟩ :: fs, out⟩ := by
              show (⟨⟨f.name, f.attrs, mstep f.kids (textN k.text)⟩ :: fs, out⟩ : Bst) = _
              rw [hms]
            rw [hadd]
            have hgood : GoodL [textN k.text] := by
              have := mstep_good GoodL.nil hN GoodL.nil
              rwa [mstep_app (n := textN k.text) (fun _ => ⟨htn, rfl⟩)] at this
            refine ⟨⟨fun g hg => ?_, ?_, h.out, h.st⟩, fun g gs hg hgr => ?_⟩
            · rcases List.mem_cons.1 hg with rfl | hg
              · refine ⟨hf0.1, hf0.2.1, hf0.2.2.1, hgood, by rw [stL_cons, stL_nil, hS]; rfl, ?_⟩
                show ([textN k.text].all (fitsB f.name.data.toList)) = true
                have : fitsB f.name.data.toList (textN k.text) = true := by
                  unfold fitsB
                  rw [hf0.2.2.1, if_neg (by decide), hr, if_pos rfl]
                  show (decide ((2 : Int) = 2) && rawOK f.name.data.toList k.text.data.toList) = true
                  rw [htl, hok]
                  rfl
                simp [this]
              · exact h.fr g (List.mem_cons_of_mem _ hg)
            · have := h.ch
              cases fs with
              | nil => trivial
              | cons x xs => exact ⟨this.1, this.2.1, this.2.2⟩
            · injection hg with hg _
              subst hg
              exact .inr ⟨k.text, rfl, hl'⟩
        · exfalso
          rcases hn' with hn' | ⟨l', hn'⟩
          · cases hn'
          · injection hn' with hn' _
            rw [hn'] at h3
            cases h3
  · -- a comment
    have hnr := come_noraw hc (by omega) (by omega)
    have hput : putB s k = addTo s (remN k.text) := by
      unfold putB
      rw [if_neg (by omega), if_neg (by omega), if_neg (by omega), if_pos h4]
    rw [hput]
    have hN : nodeOK (remN k.text) := .inr ⟨.inr rfl, tB_list _, rfl, rfl, ht⟩
    have hS : stN (remN k.text) = true := by
      rw [stN_eq]
      show ((!decide ((3 : Int) = 3) || noEnd k.text.data.toList) && true && stL []) = true
      rw [hno, stL_nil]
      rfl
    refine ⟨addTo_ok h hN GoodL.nil hS fun f fs hf => ⟨hnr f fs hf, fits_remark (h.fr f (by rw [hf]; simp)).2.2.1 (hnr f fs hf) _ (by show (3 : Int) ≠ 1; decide)⟩, rawCome_of fun f fs hf => ?_⟩
    obtain ⟨g, gs, hg, he⟩ := names_head (addTo_names _ _) hf
    rw [← he]
    exact hnr g gs hg

theorem puts_ok : ∀ (l : List Tk) (s : Bst), BOK s → rawCome s l → seqOK l → BOK (l.foldl putB s)
  | [], s, h, _, _ => h
  | k :: l, s, h, hc, hs => by
    have h1 := put_ok h hc hs
    exact puts_ok l _ h1.1 h1.2 hs.2.2
/-- Whatever tokens of a right text are built as may be, and is stable. -/
theorem tree_ok {l : List Tk} (h : seqOK l) : GoodL (treeB l) ∧ stL (treeB l) = true := by
  have h0 := puts_ok l ⟨[], []⟩ ⟨(fun f hf => by cases hf), trivial, GoodL.nil, stL_nil⟩ (fun f fs hf => by cases hf) h
  have := popN_ok (l.foldl putB ⟨[], []⟩).fs.length h0
  exact ⟨this.out, this.st⟩
theorem parse_ok {l : List UInt8} (h : isB l = true) : GoodL (parseB l) ∧ stL (parseB l) = true := tree_ok (tok_seq _ _ (Nat.le_refl _) h)

end Go.Proofs.Ytoidjkkjnhnbhaa

/- Part EndM. -/
namespace Go.Proofs.Ytoidjkkjnhnbhaa
set_option linter.unusedVariables false
set_option linter.unusedSimpArgs false

/-- Where a raw element ends; -1: it doesn't. -/
def endsI (nm l : List UInt8) : Int := if (cutEnd nm l).2 = [] then -1 else ((cutEnd nm l).1.length : Int)
theorem cutEnd_at (nm : List UInt8) : ∀ (i : Nat) (l : List UInt8), (∀ j, j < i → endAt nm (l.drop j) = false) → endAt nm (l.drop i) = true → cutEnd nm l = (l.take i, l.drop i)
  | 0, l, _, h => by
    rw [List.drop_zero] at h
    cases l with
    | nil => rfl
    | cons c r => rw [cutEnd_cons, if_pos h]; rfl
  | i + 1, [], hj, h => by rw [List.drop_nil] at h; rw [List.take_nil, List.drop_nil]; rfl
  | i + 1, c :: r, hj, h => by
    have h0 := hj 0 (by omega)
    rw [List.drop_zero] at h0
    rw [List.drop_succ_cons] at h
    rw [cutEnd_cons, if_neg (by rw [h0]; decide), cutEnd_at nm i r (fun j hj' => by have := hj (j + 1) (by omega); rwa [List.drop_succ_cons] at this) h]
    rfl
theorem cutEnd_no (nm : List UInt8) : ∀ (l : List UInt8), (∀ j, j < l.length → endAt nm (l.drop j) = false) → cutEnd nm l = (l, [])
  | [], _ => rfl
  | c :: r, hj => by
    have h0 := hj 0 (by simp)
    rw [List.drop_zero] at h0
    rw [cutEnd_cons, if_neg (by rw [h0]; decide), cutEnd_no nm r (fun j hj' => by have := hj (j + 1) (by simp; omega); rwa [List.drop_succ_cons] at this)]
theorem endAt_nil (nm : List UInt8) : endAt nm [] = false := by
  unfold endAt
  simp
theorem endAt_short {nm l : List UInt8} (h : l.length ≤ 2 + nm.length) : endAt nm l = false := by
  unfold endAt
  rw [List.drop_of_length_le h]
  simp
theorem endsI_at {nm l : List UInt8} {i : Nat} (hj : ∀ j, j < i → endAt nm (l.drop j) = false) (h : endAt nm (l.drop i) = true) : endsI nm l = (i : Int) := by
  have hlt : i < l.length := by
    rcases Nat.lt_or_ge i l.length with h' | h'
    · exact h'
    · rw [List.drop_of_length_le h', endAt_nil] at h; cases h
  unfold endsI
  rw [cutEnd_at nm i l hj h]
  show (if l.drop i = [] then _ else ((l.take i).length : Int)) = _
  rw [if_neg (by intro e; have := congrArg List.length e; rw [List.length_drop] at this; simp at this; omega), List.length_take]
  omega
theorem endsI_no {nm l : List UInt8} (hj : ∀ j, j < l.length → endAt nm (l.drop j) = false) : endsI nm l = -1 := by
  unfold endsI
  rw [cutEnd_no nm l hj, if_pos rfl]
/-- A raw element does not end in a text, just if behind it its end is the first one. -/
theorem ends_raw {nm t : List UInt8} (hn : ∀ x ∈ nm, namC x = true) : (endsI nm (t ++ (60 :: 47 :: (nm ++ [62]))) = (t.length : Int)) ↔ rawOK nm t = true := by
  constructor
  · intro h
    have hc := cutEnd_app nm (t ++ (60 :: 47 :: (nm ++ [62])))
    unfold endsI at h
    split at h
    · omega
    · have hl : (cutEnd nm (t ++ (60 :: 47 :: (nm ++ [62])))).1.length = t.length := by omega
      have h1 := List.append_inj_left hc hl
      have := cutEnd_rawOK nm (t ++ (60 :: 47 :: (nm ++ [62])))
      rwa [h1] at this
  · intro h
    have := cutEnd_stop hn [] t h
    unfold endsI
    rw [this, if_neg (by simp)]

/-- A text has a word. -/
def hasB (w : List UInt8) : List UInt8 → Bool
  | [] => decide (w = [])
  | c :: r => Lib.hasPrefix (c :: r) w || hasB w r
theorem hasB_at {w : List UInt8} (hw : w ≠ []) : ∀ {l : List UInt8} {i : Nat}, (l.drop i).take w.length = w → hasB w l = true
  | [], i, h => by
    rw [List.drop_nil, List.take_nil] at h
    exact absurd h.symm hw
  | c :: r, 0, h => by
    have : Lib.hasPrefix (c :: r) w = true := by
      unfold Lib.hasPrefix
      rw [List.isPrefixOf_iff_prefix]
      rw [List.drop_zero] at h
      rw [← h]
      exact List.take_prefix _ _
    unfold hasB
    rw [this]
    rfl
  | c :: r, i + 1, h => by
    rw [List.drop_succ_cons] at h
    unfold hasB
    rw [hasB_at hw h, Bool.or_true]
theorem hasB_no {w : List UInt8} (hw : w ≠ []) : ∀ {l : List UInt8}, (∀ i, i + w.length ≤ l.length → (l.drop i).take w.length ≠ w) → hasB w l = false
  | [], h => by
    unfold hasB
    exact decide_eq_false hw
  | c :: r, h => by
    unfold hasB
    rw [Bool.or_eq_false_iff]
    constructor
    · cases hp : Lib.hasPrefix (c :: r) w with
      | false => rfl
      | true =>
        exfalso
        unfold Lib.hasPrefix at hp
        rw [List.isPrefixOf_iff_prefix] at hp
        obtain ⟨t, ht⟩ := hp
        refine h 0 ?_ ?_
        · have := congrArg List.length ht
          rw [List.length_append] at this
          omega
        · rw [List.drop_zero, ← ht, List.take_left]
    · refine hasB_no hw fun i hi => ?_
      have := h (i + 1) (by rw [List.length_cons]; omega)
      rwa [List.drop_succ_cons] at this
theorem has_noEnd : ∀ l : List UInt8, hasB [45, 45, 62] l = !noEnd l
  | [] => rfl
  | c :: r => by
    have ih := has_noEnd r
    unfold hasB
    rw [ih]
    unfold noEnd
    rw [upTo3_cons]
    cases hp : Lib.hasPrefix (c :: r) [45, 45, 62] with
    | true =>
      rw [if_pos rfl]
      simp
    | false =>
      rw [if_neg (by decide)]
      simp

end Go.Proofs.Ytoidjkkjnhnbhaa

/- Part One. -/
namespace Go.Proofs.Ytoidjkkjnhnbhaa
open Go.RowKit
set_option linter.unusedVariables false

/-- Is it a byte that goes on? -/
def folB (x : Nat) : Bool := decide (128 ≤ x ∧ x < 192)

theorem folB_cont {l : List UInt8} {j : Nat} (h : j < l.length) : cont l j = folB (byt l j) := by
  unfold cont folB
  rw [Bool.eq_iff_iff]
  simp
  omega

/-- What has been reckoned after the bytes ahead of the k-th. -/
def oneV (l : List UInt8) (v0 : Int) : Nat → Int
  | 0 => v0
  | 1 => v0
  | k + 2 => 64 * oneV l v0 (k + 1) + byt l (k + 1) - 128

theorem oneV_step (l : List UInt8) (v0 : Int) {k : Nat} (h : 1 ≤ k) : oneV l v0 (k + 1) = 64 * oneV l v0 k + byt l k - 128 := by
  obtain ⟨m, rfl⟩ : ∃ m, k = m + 1 := ⟨k - 1, by omega⟩
  rfl

theorem oneV_bd (l : List UInt8) (v0 : Int) (h0 : 0 ≤ v0) (h1 : v0 ≤ 31) : ∀ k, k ≤ 4 → -1000000 ≤ oneV l v0 k ∧ oneV l v0 k ≤ 20000000
  | 0, _ => by show -1000000 ≤ v0 ∧ v0 ≤ 20000000; omega
  | 1, _ => by show -1000000 ≤ v0 ∧ v0 ≤ 20000000; omega
  | 2, _ => by
    have b1 := byt_lt l 1
    show -1000000 ≤ 64 * v0 + byt l 1 - 128 ∧ 64 * v0 + byt l 1 - 128 ≤ 20000000
    omega
  | 3, _ => by
    have b1 := byt_lt l 1
    have b2 := byt_lt l 2
    show -1000000 ≤ 64 * (64 * v0 + byt l 1 - 128) + byt l 2 - 128 ∧ 64 * (64 * v0 + byt l 1 - 128) + byt l 2 - 128 ≤ 20000000
    omega
  | 4, _ => by
    have b1 := byt_lt l 1
    have b2 := byt_lt l 2
    have b3 := byt_lt l 3
    show -1000000 ≤ 64 * (64 * (64 * v0 + byt l 1 - 128) + byt l 2 - 128) + byt l 3 - 128 ∧ 64 * (64 * (64 * v0 + byt l 1 - 128) + byt l 2 - 128) + byt l 3 - 128 ≤ 20000000
    omega
  | k + 5, h => by omega

theorem ret_two {k k' : IntKind} {a b c d : Int} (h : a = b) (h' : c = d) : Ending.returned (.tuple #[.int k a, .int k' c]) = .returned (.tuple #[.int k b, .int k' d]) := by rw [h, h']

theorem folB_yes {x : Nat} (h : 128 ≤ x ∧ x < 192) : folB x = true := by unfold folB; exact decide_eq_true h
theorem folB_no {x : Nat} (h : ¬ (128 ≤ x ∧ x < 192)) : folB x = false := by unfold folB; exact decide_eq_false h

set_option maxHeartbeats 400000 in
theorem follows_any (x : Nat) (w : World) (hx : x < 256) :
    Calls Try.prog 97 #[.int .u8 x] w fun e w' => e = .returned (.bool (folB x)) ∧ w = w' := by
  by_cases h1 : 128 ≤ x
  · by_cases h2 : x < 192
    · have hd := Lib.hid (folB_yes ⟨h1, h2⟩)
      go_enter Try.func97, Try.ntmps97
      go_wp2
      go_ret
      exact ⟨by rw [hd.out]; simp [go_sem]; omega, rfl⟩
    · have hd := Lib.hid (folB_no (x := x) (by omega))
      go_enter Try.func97, Try.ntmps97
      go_wp2
      go_ret
      exact ⟨by rw [hd.out]; simp [go_sem]; omega, rfl⟩
  · have hd := Lib.hid (folB_no (x := x) (by omega))
    go_enter Try.func97, Try.ntmps97
    go_wp2
    go_ret
    exact ⟨by rw [hd.out]; rfl, rfl⟩

theorem dec_low {l : List UInt8} (h : byt l 0 < 128) : dec l = (byt l 0, 1) := by unfold dec; rw [if_pos h]
theorem dec_none {l : List UInt8} (h : (128 ≤ byt l 0 ∧ byt l 0 < 192) ∨ 248 ≤ byt l 0) : dec l = (65533, 1) := by
  have b0 := byt_lt l 0
  unfold dec
  rw [if_neg (by omega), if_neg (by omega), if_neg (by omega), if_neg (by omega)]

theorem cont_short {l : List UInt8} {j : Nat} (h : ¬ j < l.length) : cont l j = false := by
  unfold cont
  simp
  omega

theorem dec_stop2 {l : List UInt8} (h1 : 192 ≤ byt l 0) (h2 : byt l 0 < 224) {j : Nat} (hj : 1 ≤ j) (hj' : j < 2) (hk : cont l j = false) : dec l = (65533, 1) := by
  obtain rfl : j = 1 := by omega
  unfold dec
  rw [if_neg (by omega), if_neg (by rw [hk]; simp), if_neg (by omega), if_neg (by omega)]

theorem dec_all2 {l : List UInt8} (h1 : 192 ≤ byt l 0) (h2 : byt l 0 < 224) (hl : 2 ≤ l.length) (c1 : folB (byt l 1) = true) :
    dec l = if (oneV l ((byt l 0 : Int) - 192) 2 < 128 ∨ 1114111 < oneV l ((byt l 0 : Int) - 192) 2 ∨ (55296 ≤ oneV l ((byt l 0 : Int) - 192) 2 ∧ oneV l ((byt l 0 : Int) - 192) 2 ≤ 57343)) then (65533, 1) else ((oneV l ((byt l 0 : Int) - 192) 2).toNat, 2) := by
  have k1 : cont l 1 = true := (folB_cont (by omega)).trans c1
  have f1 : 128 ≤ byt l 1 ∧ byt l 1 < 192 := of_decide_eq_true c1
  have e : oneV l ((byt l 0 : Int) - 192) 2 = 64 * ((byt l 0 : Int) - 192) + byt l 1 - 128 := rfl
  rw [e]
  clear e
  unfold dec
  rw [if_neg (by omega), if_pos ⟨by omega, k1⟩]
  split
  · rw [if_neg (by omega)]
    simp only [Prod.mk.injEq, and_true]
    omega
  · rw [if_pos (by omega)]

set_option maxHeartbeats 1000000 in
set_option maxRecDepth 100000 in
theorem one_2 (b o c : Nat) (l : List UInt8) (w : World) (hcell : ∀ j, j < l.length → w.cell? ⟨b, o + j, none⟩ = some (.int .u8 (byt l j))) (hm : l.length ≤ maxLen) (hp : 0 < l.length)
    (h1 : 192 ≤ byt l 0) (h2 : byt l 0 < 224) :
    Calls Try.prog 80 #[.slice (some ⟨b, o, none⟩) l.length c] w fun e w' => e = .returned (.tuple #[.int .i32 (dec l).1, .int .i64 (dec l).2]) ∧ w = w' := by
  unfold maxLen at hm
  have hc0 : w.cell? ⟨b, o, none⟩ = some (.int .u8 (byt l 0)) := hcell 0 hp
  have HC := Lib.hid hcell
  clear hcell
  by_cases hs : l.length < 2
  · have HD := Lib.hid (dec_stop2 h1 h2 (j := 1) (by omega) (by omega) (cont_short (by omega)))
    go_enter Try.func80, Try.ntmps80
    go_wp2
    go_ret2
    exact ⟨by rw [HD.out]; rfl, rfl⟩
  · have B1 : decide ((byt l 0 : Int) < 128) = false := by simp; omega
    have B224 : decide ((byt l 0 : Int) < 224) = true := by simp; omega
    have BL : decide ((l.length : Int) < 2) = false := by simp; omega
    go_enter Try.func80, Try.ntmps80
    go_wp2
    go_loop [6, 8] (fun v i => ∃ k : Nat, 1 ≤ k ∧ k ≤ 2 ∧ i = .int .i64 k ∧ v = .int .i64 (oneV l ((byt l 0 : Int) - 192) k) ∧ Hid (∀ j, 1 ≤ j → j < k → folB (byt l j) = true)) (fun _ i => 2 - (intOf i).toNat)
    case atStart => exact ⟨1, by omega, by omega, rfl, rfl, Lib.hid (fun j _ _ => by omega)⟩
    case round =>
      obtain ⟨k, hk1, hk2, rfl, rfl, HA⟩ := hrel
      have hv := oneV_bd l ((byt l 0 : Int) - 192) (by omega) (by omega) k (by omega)
      by_cases hlt : k < 2
      · have hck := HC.out k (by omega)
        have hb := byt_lt l k
        have hst := oneV_step l ((byt l 0 : Int) - 192) hk1
        by_cases hf : folB (byt l k) = true
        · have hst' := hst.symm
          have HST := Lib.hid hst'
          have HF := Lib.hid hf
          clear hst hst'
          go_wp2_with (go_at_call 97; refine (follows_any _ _ hb).mono ?_; rintro e w' ⟨rfl, rfl⟩)
          go_round
          case rel =>
            refine ⟨k + 1, by omega, by omega, by go_num, by rw [← HST.out], Lib.hid (fun j ha hb' => ?_)⟩
            by_cases hj : j = k
            · rw [hj]; exact HF.out
            · exact HA.out j ha (by omega)
          case measure => simp [intOf]; omega
        · have hf' : folB (byt l k) = false := by simpa using hf
          have HD := Lib.hid (dec_stop2 h1 h2 hk1 hlt ((folB_cont (by omega)).trans hf'))
          clear hst hf
          go_wp2_with (go_at_call 97; refine (follows_any _ _ hb).mono ?_; rintro e w' ⟨rfl, rfl⟩)
          go_ret2
          exact ⟨by rw [HD.out]; rfl, rfl⟩
      · obtain rfl : k = 2 := by omega
        have hd := dec_all2 h1 h2 (by omega) (HA.out 1 (by omega) (by omega))
        generalize oneV l ((byt l 0 : Int) - 192) 2 = V at *
        by_cases hbad : (V < 128 ∨ 1114111 < V ∨ (55296 ≤ V ∧ V ≤ 57343))
        · rw [if_pos hbad] at hd
          have HD := Lib.hid hd
          clear hd
          rcases hbad with hb1 | hb1 | hb1
          · go_wp2
            go_ret2
            exact ⟨by rw [HD.out]; rfl, rfl⟩
          · have hb0 : ¬ V < 128 := by omega
            go_wp2
            go_ret2
            exact ⟨by rw [HD.out]; rfl, rfl⟩
          · obtain ⟨hb2, hb3⟩ := hb1
            have hb1 : ¬ 1114111 < V := by omega
            by_cases hb0 : V < 128
            · go_wp2
              go_ret2
              exact ⟨by rw [HD.out]; rfl, rfl⟩
            · go_wp2
              go_ret2
              exact ⟨by rw [HD.out]; rfl, rfl⟩
        · rw [if_neg hbad] at hd
          have HD := Lib.hid hd
          clear hd
          have g1 : 128 ≤ V := by omega
          have g2 : V ≤ 1114111 := by omega
          by_cases g3 : 55296 ≤ V
          · have g4 : 57343 < V := by omega
            go_wp2
            go_ret2
            exact ⟨by rw [HD.out]; exact ret_two (by simp; omega) rfl, rfl⟩
          · go_wp2
            go_ret2
            exact ⟨by rw [HD.out]; exact ret_two (by simp; omega) rfl, rfl⟩

theorem dec_stop3 {l : List UInt8} (h1 : 224 ≤ byt l 0) (h2 : byt l 0 < 240) {j : Nat} (hj : 1 ≤ j) (hj' : j < 3) (hk : cont l j = false) : dec l = (65533, 1) := by
  have : j = 1 ∨ j = 2 := by omega
  unfold dec
  rw [if_neg (by omega), if_neg (by omega)]
  rw [if_neg (by rcases this with rfl | rfl <;> (rw [hk]; simp)), if_neg (by omega)]

theorem dec_all3 {l : List UInt8} (h1 : 224 ≤ byt l 0) (h2 : byt l 0 < 240) (hl : 3 ≤ l.length) (c1 : folB (byt l 1) = true) (c2 : folB (byt l 2) = true) :
    dec l = if (oneV l ((byt l 0 : Int) - 224) 3 < 2048 ∨ 1114111 < oneV l ((byt l 0 : Int) - 224) 3 ∨ (55296 ≤ oneV l ((byt l 0 : Int) - 224) 3 ∧ oneV l ((byt l 0 : Int) - 224) 3 ≤ 57343)) then (65533, 1) else ((oneV l ((byt l 0 : Int) - 224) 3).toNat, 3) := by
  have k1 : cont l 1 = true := (folB_cont (by omega)).trans c1
  have f1 : 128 ≤ byt l 1 ∧ byt l 1 < 192 := of_decide_eq_true c1
  have k2 : cont l 2 = true := (folB_cont (by omega)).trans c2
  have f2 : 128 ≤ byt l 2 ∧ byt l 2 < 192 := of_decide_eq_true c2
  have e : oneV l ((byt l 0 : Int) - 224) 3 = 64 * (64 * ((byt l 0 : Int) - 224) + byt l 1 - 128) + byt l 2 - 128 := rfl
  rw [e]
  clear e
  unfold dec
  rw [if_neg (by omega), if_neg (by omega), if_pos ⟨by omega, k1, k2⟩]
  split
  · rw [if_neg (by omega)]
    simp only [Prod.mk.injEq, and_true]
    omega
  · rw [if_pos (by omega)]

set_option maxHeartbeats 1000000 in
set_option maxRecDepth 100000 in
theorem one_3 (b o c : Nat) (l : List UInt8) (w : World) (hcell : ∀ j, j < l.length → w.cell? ⟨b, o + j, none⟩ = some (.int .u8 (byt l j))) (hm : l.length ≤ maxLen) (hp : 0 < l.length)
    (h1 : 224 ≤ byt l 0) (h2 : byt l 0 < 240) :
    Calls Try.prog 80 #[.slice (some ⟨b, o, none⟩) l.length c] w fun e w' => e = .returned (.tuple #[.int .i32 (dec l).1, .int .i64 (dec l).2]) ∧ w = w' := by
  unfold maxLen at hm
  have hc0 : w.cell? ⟨b, o, none⟩ = some (.int .u8 (byt l 0)) := hcell 0 hp
  have HC := Lib.hid hcell
  clear hcell
  by_cases hs : l.length < 3
  · have HD := Lib.hid (dec_stop3 h1 h2 (j := 2) (by omega) (by omega) (cont_short (by omega)))
    go_enter Try.func80, Try.ntmps80
    go_wp2
    go_ret2
    exact ⟨by rw [HD.out]; rfl, rfl⟩
  · have B1 : decide ((byt l 0 : Int) < 128) = false := by simp; omega
    have B224 : decide ((byt l 0 : Int) < 224) = false := by simp; omega
    have B240 : decide ((byt l 0 : Int) < 240) = true := by simp; omega
    have BL : decide ((l.length : Int) < 3) = false := by simp; omega
    go_enter Try.func80, Try.ntmps80
    go_wp2
    go_loop [6, 8] (fun v i => ∃ k : Nat, 1 ≤ k ∧ k ≤ 3 ∧ i = .int .i64 k ∧ v = .int .i64 (oneV l ((byt l 0 : Int) - 224) k) ∧ Hid (∀ j, 1 ≤ j → j < k → folB (byt l j) = true)) (fun _ i => 3 - (intOf i).toNat)
    case atStart => exact ⟨1, by omega, by omega, rfl, rfl, Lib.hid (fun j _ _ => by omega)⟩
    case round =>
      obtain ⟨k, hk1, hk2, rfl, rfl, HA⟩ := hrel
      have hv := oneV_bd l ((byt l 0 : Int) - 224) (by omega) (by omega) k (by omega)
      by_cases hlt : k < 3
      · have hck := HC.out k (by omega)
        have hb := byt_lt l k
        have hst := oneV_step l ((byt l 0 : Int) - 224) hk1
        by_cases hf : folB (byt l k) = true
        · have hst' := hst.symm
          have HST := Lib.hid hst'
          have HF := Lib.hid hf
          clear hst hst'
          go_wp2_with (go_at_call 97; refine (follows_any _ _ hb).mono ?_; rintro e w' ⟨rfl, rfl⟩)
          go_round
          case rel =>
            refine ⟨k + 1, by omega, by omega, by go_num, by rw [← HST.out], Lib.hid (fun j ha hb' => ?_)⟩
            by_cases hj : j = k
            · rw [hj]; exact HF.out
            · exact HA.out j ha (by omega)
          case measure => simp [intOf]; omega
        · have hf' : folB (byt l k) = false := by simpa using hf
          have HD := Lib.hid (dec_stop3 h1 h2 hk1 hlt ((folB_cont (by omega)).trans hf'))
          clear hst hf
          go_wp2_with (go_at_call 97; refine (follows_any _ _ hb).mono ?_; rintro e w' ⟨rfl, rfl⟩)
          go_ret2
          exact ⟨by rw [HD.out]; rfl, rfl⟩
      · obtain rfl : k = 3 := by omega
        have hd := dec_all3 h1 h2 (by omega) (HA.out 1 (by omega) (by omega)) (HA.out 2 (by omega) (by omega))
        generalize oneV l ((byt l 0 : Int) - 224) 3 = V at *
        by_cases hbad : (V < 2048 ∨ 1114111 < V ∨ (55296 ≤ V ∧ V ≤ 57343))
        · rw [if_pos hbad] at hd
          have HD := Lib.hid hd
          clear hd
          rcases hbad with hb1 | hb1 | hb1
          · go_wp2
            go_ret2
            exact ⟨by rw [HD.out]; rfl, rfl⟩
          · have hb0 : ¬ V < 2048 := by omega
            go_wp2
            go_ret2
            exact ⟨by rw [HD.out]; rfl, rfl⟩
          · obtain ⟨hb2, hb3⟩ := hb1
            have hb1 : ¬ 1114111 < V := by omega
            by_cases hb0 : V < 2048
            · go_wp2
              go_ret2
              exact ⟨by rw [HD.out]; rfl, rfl⟩
            · go_wp2
              go_ret2
              exact ⟨by rw [HD.out]; rfl, rfl⟩
        · rw [if_neg hbad] at hd
          have HD := Lib.hid hd
          clear hd
          have g1 : 2048 ≤ V := by omega
          have g2 : V ≤ 1114111 := by omega
          by_cases g3 : 55296 ≤ V
          · have g4 : 57343 < V := by omega
            go_wp2
            go_ret2
            exact ⟨by rw [HD.out]; exact ret_two (by simp; omega) rfl, rfl⟩
          · go_wp2
            go_ret2
            exact ⟨by rw [HD.out]; exact ret_two (by simp; omega) rfl, rfl⟩

theorem dec_stop4 {l : List UInt8} (h1 : 240 ≤ byt l 0) (h2 : byt l 0 < 248) {j : Nat} (hj : 1 ≤ j) (hj' : j < 4) (hk : cont l j = false) : dec l = (65533, 1) := by
  have : j = 1 ∨ j = 2 ∨ j = 3 := by omega
  unfold dec
  rw [if_neg (by omega), if_neg (by omega), if_neg (by omega)]
  rw [if_neg (by rcases this with rfl | rfl | rfl <;> (rw [hk]; simp))]

theorem dec_all4 {l : List UInt8} (h1 : 240 ≤ byt l 0) (h2 : byt l 0 < 248) (hl : 4 ≤ l.length) (c1 : folB (byt l 1) = true) (c2 : folB (byt l 2) = true) (c3 : folB (byt l 3) = true) :
    dec l = if (oneV l ((byt l 0 : Int) - 240) 4 < 65536 ∨ 1114111 < oneV l ((byt l 0 : Int) - 240) 4 ∨ (55296 ≤ oneV l ((byt l 0 : Int) - 240) 4 ∧ oneV l ((byt l 0 : Int) - 240) 4 ≤ 57343)) then (65533, 1) else ((oneV l ((byt l 0 : Int) - 240) 4).toNat, 4) := by
  have k1 : cont l 1 = true := (folB_cont (by omega)).trans c1
  have f1 : 128 ≤ byt l 1 ∧ byt l 1 < 192 := of_decide_eq_true c1
  have k2 : cont l 2 = true := (folB_cont (by omega)).trans c2
  have f2 : 128 ≤ byt l 2 ∧ byt l 2 < 192 := of_decide_eq_true c2
  have k3 : cont l 3 = true := (folB_cont (by omega)).trans c3
  have f3 : 128 ≤ byt l 3 ∧ byt l 3 < 192 := of_decide_eq_true c3
  have e : oneV l ((byt l 0 : Int) - 240) 4 = 64 * (64 * (64 * ((byt l 0 : Int) - 240) + byt l 1 - 128) + byt l 2 - 128) + byt l 3 - 128 := rfl
  rw [e]
  clear e
  unfold dec
  rw [if_neg (by omega), if_neg (by omega), if_neg (by omega), if_pos ⟨by omega, k1, k2, k3⟩]
  split
  · rw [if_neg (by omega)]
    simp only [Prod.mk.injEq, and_true]
    omega
  · rw [if_pos (by omega)]

set_option maxHeartbeats 1000000 in
set_option maxRecDepth 100000 in
theorem one_4 (b o c : Nat) (l : List UInt8) (w : World) (hcell : ∀ j, j < l.length → w.cell? ⟨b, o + j, none⟩ = some (.int .u8 (byt l j))) (hm : l.length ≤ maxLen) (hp : 0 < l.length)
    (h1 : 240 ≤ byt l 0) (h2 : byt l 0 < 248) :
    Calls Try.prog 80 #[.slice (some ⟨b, o, none⟩) l.length c] w fun e w' => e = .returned (.tuple #[.int .i32 (dec l).1, .int .i64 (dec l).2]) ∧ w = w' := by
  unfold maxLen at hm
  have hc0 : w.cell? ⟨b, o, none⟩ = some (.int .u8 (byt l 0)) := hcell 0 hp
  have HC := Lib.hid hcell
  clear hcell
  by_cases hs : l.length < 4
  · have HD := Lib.hid (dec_stop4 h1 h2 (j := 3) (by omega) (by omega) (cont_short (by omega)))
    go_enter Try.func80, Try.ntmps80
    go_wp2
    go_ret2
    exact ⟨by rw [HD.out]; rfl, rfl⟩
  · have B1 : decide ((byt l 0 : Int) < 128) = false := by simp; omega
    have B224 : decide ((byt l 0 : Int) < 224) = false := by simp; omega
    have B240 : decide ((byt l 0 : Int) < 240) = false := by simp; omega
    have B248 : decide ((byt l 0 : Int) < 248) = true := by simp; omega
    have BL : decide ((l.length : Int) < 4) = false := by simp; omega
    go_enter Try.func80, Try.ntmps80
    go_wp2
    go_loop [6, 8] (fun v i => ∃ k : Nat, 1 ≤ k ∧ k ≤ 4 ∧ i = .int .i64 k ∧ v = .int .i64 (oneV l ((byt l 0 : Int) - 240) k) ∧ Hid (∀ j, 1 ≤ j → j < k → folB (byt l j) = true)) (fun _ i => 4 - (intOf i).toNat)
    case atStart => exact ⟨1, by omega, by omega, rfl, rfl, Lib.hid (fun j _ _ => by omega)⟩
    case round =>
      obtain ⟨k, hk1, hk2, rfl, rfl, HA⟩ := hrel
      have hv := oneV_bd l ((byt l 0 : Int) - 240) (by omega) (by omega) k (by omega)
      by_cases hlt : k < 4
      · have hck := HC.out k (by omega)
        have hb := byt_lt l k
        have hst := oneV_step l ((byt l 0 : Int) - 240) hk1
        by_cases hf : folB (byt l k) = true
        · have hst' := hst.symm
          have HST := Lib.hid hst'
          have HF := Lib.hid hf
          clear hst hst'
          go_wp2_with (go_at_call 97; refine (follows_any _ _ hb).mono ?_; rintro e w' ⟨rfl, rfl⟩)
          go_round
          case rel =>
            refine ⟨k + 1, by omega, by omega, by go_num, by rw [← HST.out], Lib.hid (fun j ha hb' => ?_)⟩
            by_cases hj : j = k
            · rw [hj]; exact HF.out
            · exact HA.out j ha (by omega)
          case measure => simp [intOf]; omega
        · have hf' : folB (byt l k) = false := by simpa using hf
          have HD := Lib.hid (dec_stop4 h1 h2 hk1 hlt ((folB_cont (by omega)).trans hf'))
          clear hst hf
          go_wp2_with (go_at_call 97; refine (follows_any _ _ hb).mono ?_; rintro e w' ⟨rfl, rfl⟩)
          go_ret2
          exact ⟨by rw [HD.out]; rfl, rfl⟩
      · obtain rfl : k = 4 := by omega
        have hd := dec_all4 h1 h2 (by omega) (HA.out 1 (by omega) (by omega)) (HA.out 2 (by omega) (by omega)) (HA.out 3 (by omega) (by omega))
        generalize oneV l ((byt l 0 : Int) - 240) 4 = V at *
        by_cases hbad : (V < 65536 ∨ 1114111 < V ∨ (55296 ≤ V ∧ V ≤ 57343))
        · rw [if_pos hbad] at hd
          have HD := Lib.hid hd
          clear hd
          rcases hbad with hb1 | hb1 | hb1
          · go_wp2
            go_ret2
            exact ⟨by rw [HD.out]; rfl, rfl⟩
          · have hb0 : ¬ V < 65536 := by omega
            go_wp2
            go_ret2
            exact ⟨by rw [HD.out]; rfl, rfl⟩
          · obtain ⟨hb2, hb3⟩ := hb1
            have hb1 : ¬ 1114111 < V := by omega
            by_cases hb0 : V < 65536
            · go_wp2
              go_ret2
              exact ⟨by rw [HD.out]; rfl, rfl⟩
            · omega
        · rw [if_neg hbad] at hd
          have HD := Lib.hid hd
          clear hd
          have g1 : 65536 ≤ V := by omega
          have g2 : V ≤ 1114111 := by omega
          by_cases g3 : 55296 ≤ V
          · have g4 : 57343 < V := by omega
            go_wp2
            go_ret2
            exact ⟨by rw [HD.out]; exact ret_two (by simp; omega) rfl, rfl⟩
          · omega

set_option maxHeartbeats 1000000 in
set_option maxRecDepth 100000 in
theorem one_any (b o c : Nat) (l : List UInt8) (w : World) (hcell : ∀ j, j < l.length → w.cell? ⟨b, o + j, none⟩ = some (.int .u8 (byt l j))) (hm : l.length ≤ maxLen) (hp : 0 < l.length) :
    Calls Try.prog 80 #[.slice (some ⟨b, o, none⟩) l.length c] w fun e w' => e = .returned (.tuple #[.int .i32 (dec l).1, .int .i64 (dec l).2]) ∧ w = w' := by
  have b0 := byt_lt l 0
  by_cases a2 : 192 ≤ byt l 0 ∧ byt l 0 < 224
  · exact one_2 b o c l w hcell hm hp a2.1 a2.2
  by_cases a3 : 224 ≤ byt l 0 ∧ byt l 0 < 240
  · exact one_3 b o c l w hcell hm hp a3.1 a3.2
  by_cases a4 : 240 ≤ byt l 0 ∧ byt l 0 < 248
  · exact one_4 b o c l w hcell hm hp a4.1 a4.2
  have hc0 : w.cell? ⟨b, o, none⟩ = some (.int .u8 (byt l 0)) := hcell 0 hp
  clear hcell
  unfold maxLen at hm
  by_cases h1 : byt l 0 < 128
  · have HD := Lib.hid (dec_low h1)
    clear a2 a3 a4
    go_enter Try.func80, Try.ntmps80
    go_wp2
    go_ret2
    exact ⟨by rw [HD.out]; rfl, rfl⟩
  · have HD := Lib.hid (dec_none (l := l) (by omega))
    by_cases h3 : byt l 0 < 192
    · clear a2 a3 a4
      go_enter Try.func80, Try.ntmps80
      go_wp2
      go_ret2
      exact ⟨by rw [HD.out]; rfl, rfl⟩
    · have h4 : 248 ≤ byt l 0 := by omega
      clear a2 a3 a4
      go_enter Try.func80, Try.ntmps80
      go_wp2
      go_ret2
      exact ⟨by rw [HD.out]; rfl, rfl⟩

theorem one_sits {b o n c : Nat} {l : List UInt8} {w : World} (hcell : ∀ j u, (Lib.byteCells l)[j]? = some u → w.cell? ⟨b, o + j, none⟩ = some u) (hn : n = l.length) (hm : l.length ≤ maxLen) (hp : 0 < l.length) :
    Calls Try.prog 80 #[.slice (some ⟨b, o, none⟩) n c] w fun e w' => e = .returned (.tuple #[.int .i32 (dec l).1, .int .i64 (dec l).2]) ∧ w = w' := by
  subst hn
  exact one_any b o c l w (fun j hj => hcell j _ (byteCells_at hj)) hm hp

end Go.Proofs.Ytoidjkkjnhnbhaa
