/- Parts of the proof, in build order: GoodM BareM TokW TokS. -/
import Derived.Test.YthmnnalamaponaaGreatK01
import Derived.Test.YthmnnalamaponaaGreatK02

/- Part GoodM. -/
namespace Go.Proofs.YthmnnalamaponaaGreat
set_option linter.unusedVariables false

/-- Attributes may be: names that are such, unlike one another, right values. -/
def attrsOK (l : List (ByteArray × ByteArray)) : Prop := (∀ a ∈ l, attrB a.1.data.toList = true ∧ isB a.2.data.toList = true) ∧ l.Pairwise (fun a b => a.1 ≠ b.1)
/-- A node may be, but for its kids and what stands beside it. -/
def nodeOK (n : Nd) : Prop :=
  (n.kind = 1 ∧ namedB n.name.data.toList = true ∧ n.text.data.toList = [] ∧ attrsOK n.attrs) ∨
  ((n.kind = 2 ∨ n.kind = 3) ∧ n.name.data.toList = [] ∧ n.attrs = [] ∧ n.kids = [] ∧ isB n.text.data.toList = true)
/-- No text is empty, and no two stand side by side; b: does a text stand ahead? -/
def sides : Bool → List Nd → Prop
  | _, [] => True
  | b, n :: l => (n.kind = 2 → n.text.data.toList ≠ [] ∧ b = false) ∧ sides (n.kind == 2) l
/-- Nodes may be. -/
inductive GoodL : List Nd → Prop
  | mk (l : List Nd) (h : ∀ n ∈ l, nodeOK n) (hs : sides false l) (hk : ∀ n ∈ l, GoodL n.kids) : GoodL l

theorem GoodL.nodes {l : List Nd} (h : GoodL l) : ∀ n ∈ l, nodeOK n := by cases h; assumption
theorem GoodL.sides_ {l : List Nd} (h : GoodL l) : sides false l := by cases h; assumption
theorem GoodL.kids {l : List Nd} (h : GoodL l) : ∀ n ∈ l, GoodL n.kids := by cases h; assumption
theorem GoodL.nil : GoodL [] := .mk [] (by simp) trivial (by simp)

theorem sides_snoc : ∀ (l : List Nd) (b : Bool) (n : Nd), sides b (l ++ [n]) ↔ sides b l ∧ (n.kind = 2 → n.text.data.toList ≠ [] ∧ (if l = [] then b else lastText l) = false)
  | [], b, n => by simp [sides]
  | x :: l, b, n => by
    rw [List.cons_append]
    simp only [sides]
    rw [sides_snoc l (x.kind == 2) n, and_assoc]
    have e : (if l = [] then (x.kind == 2) else lastText l) = lastText (x :: l) := by
      by_cases h : l = []
      · subst h; rw [if_pos rfl]; rfl
      · rw [if_neg h]
        obtain ⟨m, y, rfl⟩ := snoc_of (List.length_pos_iff.2 h)
        rw [lastText_snoc, ← List.cons_append, lastText_snoc]
    rw [e, if_neg (by simp)]

/-- Nodes that may be but for texts side by side, and empty ones. -/
def preOK (l : List Nd) : Prop := (∀ n ∈ l, nodeOK n) ∧ ∀ n ∈ l, GoodL n.kids

theorem right_app {a b : ByteArray} (ha : isB a.data.toList = true) (hb : isB b.data.toList = true) : isB (a ++ b).data.toList = true := by
  rw [ByteArray.data_append, Array.toList_append, ← right_of_isB ha, ← right_of_isB hb]
  exact isB_join _ _

theorem nodeOK_text {n : Nd} (h : nodeOK n) (hk : n.kind = 2) : n.name.data.toList = [] ∧ n.attrs = [] ∧ n.kids = [] ∧ isB n.text.data.toList = true := by
  rcases h with h | h
  · have := h.1; omega
  · exact ⟨h.2.1, h.2.2.1, h.2.2.2.1, h.2.2.2.2⟩

theorem mstep_good {out : List Nd} {n : Nd} (ho : GoodL out) (hn : nodeOK n) (hk : GoodL n.kids) : GoodL (mstep out n) := by
  unfold mstep
  split
  · exact ho
  · rename_i h1
    split
    · rename_i h2
      obtain ⟨hk2, hl⟩ := h2
      have hne : 0 < out.length := by
        rcases Nat.eq_zero_or_pos out.length with h0 | h0
        · have : out = [] := List.eq_nil_of_length_eq_zero h0
          subst this
          simp [lastText] at hl
        · exact h0
      obtain ⟨m, x, rfl⟩ := snoc_of hne
      rw [lastText_snoc] at hl
      have hx2 : x.kind = 2 := by simpa using hl
      have hx := nodeOK_text (ho.nodes x (by simp)) hx2
      have hn2 := nodeOK_text hn hk2
      have hs := ho.sides_
      rw [sides_snoc] at hs
      rw [mglue_snoc]
      refine .mk _ ?_ ?_ ?_
      · intro y hy
        rcases List.mem_append.1 hy with hy | hy
        · exact ho.nodes y (by simp [hy])
        · simp at hy
          subst hy
          exact .inr ⟨.inl hx2, hx.1, hx.2.1, hx.2.2.1, right_app hx.2.2.2 hn2.2.2.2⟩
      · rw [sides_snoc]
        refine ⟨hs.1, fun _ => ⟨?_, (hs.2 hx2).2⟩⟩
        have := (hs.2 hx2).1
        show (x.text ++ n.text).data.toList ≠ []
        rw [ByteArray.data_append, Array.toList_append]
        intro e
        exact this (List.append_eq_nil_iff.1 e).1
      · intro y hy
        rcases List.mem_append.1 hy with hy | hy
        · exact ho.kids y (by simp [hy])
        · simp at hy
          subst hy
          exact ho.kids x (by simp)
    · rename_i h2
      refine .mk _ ?_ ?_ ?_
      · intro y hy
        rcases List.mem_append.1 hy with hy | hy
        · exact ho.nodes y hy
        · simp at hy
          subst hy
          exact hn
      · rw [sides_snoc]
        refine ⟨ho.sides_, fun h => ⟨fun e => h1 ⟨h, e⟩, ?_⟩⟩
        split
        · rfl
        · cases hl : lastText out with
          | false => rfl
          | true => exact absurd ⟨h, hl⟩ h2
      · intro y hy
        rcases List.mem_append.1 hy with hy | hy
        · exact ho.kids y hy
        · simp at hy
          subst hy
          exact hk

theorem merge_good {l : List Nd} (h : preOK l) : GoodL (mergeB l) := by
  unfold mergeB
  have key : ∀ (l : List Nd) (out : List Nd), preOK l → GoodL out → GoodL (l.foldl mstep out) := by
    intro l
    induction l with
    | nil => intro out _ ho; exact ho
    | cons n l ih =>
      intro out hp ho
      rw [List.foldl_cons]
      exact ih _ ⟨fun x hx => hp.1 x (by simp [hx]), fun x hx => hp.2 x (by simp [hx])⟩ (mstep_good ho (hp.1 n (by simp)) (hp.2 n (by simp)))
  exact key l [] h GoodL.nil

end Go.Proofs.YthmnnalamaponaaGreat

/- Part BareM. -/
namespace Go.Proofs.YthmnnalamaponaaGreat
set_option linter.unusedVariables false

/-- Of what is written no byte is <, in a text or in a value. -/
theorem wr_no60 (v : Bool) (x : UInt8) : ∀ c ∈ wrC v x, c ≠ 60 := by
  unfold wrC
  by_cases h1 : x = 38
  · subst h1; cases v <;> decide
  by_cases h2 : x = 60
  · subst h2; cases v <;> decide
  by_cases h3 : x = 62
  · subst h3; cases v <;> decide
  by_cases h4 : x = 34 ∧ v = true
  · obtain ⟨h4, h5⟩ := h4
    subst h4
    subst h5
    decide
  have e : wrB v x = [] := by
    unfold wrB
    rw [if_neg h1, if_neg h2, if_neg h3, if_neg h4]
  rw [if_pos e]
  intro c hc
  simp at hc
  subst hc
  exact h2
theorem esc_no60 (v : Bool) (l : List UInt8) : (escB v l).count 60 = 0 := by
  rw [List.count_eq_zero]
  intro h
  unfold escB at h
  obtain ⟨x, _, hx⟩ := List.mem_flatMap.1 h
  exact wr_no60 v x 60 hx rfl

/-- Texts alone have none. -/
theorem texts_cnt : ∀ l : List Nd, (∀ q ∈ l, q.kind = 2) → (txtL false l).count 60 = 0
  | [], _ => by rw [txtL_nil]; rfl
  | n :: l, h => by
    have hk := h n (by simp)
    rw [txtL_cons, List.count_append, texts_cnt l (fun q hq => h q (List.mem_cons_of_mem _ hq)), txtN_eq, if_neg (by omega), if_pos hk, if_neg (by decide), esc_no60]
theorem atts_cnt : ∀ l : List (ByteArray × ByteArray), (∀ a ∈ l, (a.1.data.toList).count 60 = 0) → (l.flatMap attT).count 60 = 0
  | [], _ => rfl
  | a :: l, h => by
    rw [List.flatMap_cons, List.count_append, atts_cnt l (fun q hq => h q (List.mem_cons_of_mem _ hq))]
    unfold attT
    rw [List.count_cons_of_ne (by decide), List.count_append, h a (by simp), List.count_cons_of_ne (by decide), List.count_cons_of_ne (by decide), List.count_append, esc_no60]
    rfl
/-- An element of a name without <, attributes' names without <, texts alone for kids: two. -/
theorem elem_cnt {m : Nd} (h1 : m.kind = 1) (hn : m.name.data.toList.count 60 = 0) (hv : voidB m.name.data.toList = false) (hr : rawB m.name.data.toList = false) (ha : ∀ a ∈ m.attrs, (a.1.data.toList).count 60 = 0) (hk : ∀ q ∈ m.kids, q.kind = 2) :
    (txtN false m).count 60 = 2 := by
  have e1 : (openT m).count 60 = 1 := by
    unfold openT
    rw [List.count_cons_self, List.count_append, hn, List.count_append, atts_cnt _ ha]
    rfl
  have e2 : (closeT m).count 60 = 1 := by
    unfold closeT
    rw [List.count_cons_self, List.count_cons_of_ne (by decide), List.count_append, hn]
    rfl
  rw [txtN_eq, if_neg (by omega), if_neg (by omega), if_pos h1, hv, if_neg (by decide), hr, List.count_append, List.count_append, texts_cnt _ hk, e1, e2]
theorem list_cnt : ∀ l : List Nd, (∀ m ∈ l, (txtN false m).count 60 = 2) → (txtL false l).count 60 = 2 * l.length
  | [], _ => by rw [txtL_nil]; rfl
  | m :: l, h => by
    rw [txtL_cons, List.count_append, h m (by simp), list_cnt l (fun q hq => h q (List.mem_cons_of_mem _ hq)), List.length_cons]
    omega

end Go.Proofs.YthmnnalamaponaaGreat

/- Part TokW. -/
namespace Go.Proofs.YthmnnalamaponaaGreat
set_option linter.unusedVariables false
set_option linter.unusedSimpArgs false

/-! ### stable nodes -/
def closedBy (o : List UInt8) : List (List UInt8) :=
  if o = [112] then [[98, 108, 111, 99, 107, 113, 117, 111, 116, 101], [100, 105, 118], [104, 49], [104, 50], [104, 114], [108, 105], [111, 108], [112], [112, 114, 101], [116, 97, 98, 108, 101], [117, 108]]
  else if o = [108, 105] then [[108, 105]]
  else if o = [100, 116] ∨ o = [100, 100] then [[100, 100], [100, 116]]
  else if o = [111, 112, 116, 105, 111, 110] then [[111, 112, 116, 105, 111, 110]]
  else if o = [116, 100] then [[116, 100], [116, 114]]
  else if o = [116, 114] then [[116, 114]]
  else []
/-- The beginning of b closes an open o. -/
def closesB (o b : List UInt8) : Bool := (closedBy o).any (fun x => decide (x = b))
/-- A raw element does not end in a text; a comment neither. -/
def rawOK (nm t : List UInt8) : Bool := decide ((cutEnd nm t).1 = t)
def noEnd (t : List UInt8) : Bool := decide ((upTo3 t).1 = t)
/-- A node may stand in an element of that name. -/
def fitsB (p : List UInt8) (n : Nd) : Bool :=
  if voidB p = true then false
  else if rawB p = true then decide (n.kind = 2) && rawOK p n.text.data.toList
  else !decide (n.kind = 1) || !closesB p n.name.data.toList
mutual
/-- Nodes that may be are stable. -/
def stN : Nd → Bool
  | .mk k nm a t ks => (!decide (k = 3) || noEnd t.data.toList) && ks.all (fitsB nm.data.toList) && stL ks
def stL : List Nd → Bool
  | [] => true
  | n :: l => stN n && stL l
end
theorem stN_eq (n : Nd) : stN n = ((!decide (n.kind = 3) || noEnd n.text.data.toList) && n.kids.all (fitsB n.name.data.toList) && stL n.kids) := by
  cases n
  simp only [stN, Nd.kind, Nd.text, Nd.kids, Nd.name]
  rfl
theorem stL_nil : stL [] = true := by simp [stL]
theorem stL_cons (n : Nd) (l : List Nd) : stL (n :: l) = (stN n && stL l) := by simp [stL]
theorem stL_all : ∀ l : List Nd, stL l = l.all stN
  | [] => by simp [stL]
  | n :: l => by rw [stL_cons, stL_all l, List.all_cons]
theorem stL_append (a b : List Nd) : stL (a ++ b) = (stL a && stL b) := by rw [stL_all, stL_all, stL_all, List.all_append]

/-! ### nodes' tags -/
mutual
def tagsN : Nd → List Tk
  | .mk k nm a t ks =>
    if k = 1 then tkB nm.data.toList a :: (if voidB nm.data.toList = true then [] else tagsL ks ++ [tkE nm.data.toList])
    else if k = 2 then [tkC t.data.toList] else if k = 3 then [tkR t.data.toList] else []
def tagsL : List Nd → List Tk
  | [] => []
  | n :: l => tagsN n ++ tagsL l
end
theorem tagsN_eq (n : Nd) : tagsN n = if n.kind = 1 then tkB n.name.data.toList n.attrs :: (if voidB n.name.data.toList = true then [] else tagsL n.kids ++ [tkE n.name.data.toList])
    else if n.kind = 2 then [tkC n.text.data.toList] else if n.kind = 3 then [tkR n.text.data.toList] else [] := by
  cases n
  simp only [tagsN, Nd.kind, Nd.text, Nd.kids, Nd.name, Nd.attrs]
  rfl
theorem tagsL_nil : tagsL [] = [] := by simp [tagsL]
theorem tagsL_cons (n : Nd) (l : List Nd) : tagsL (n :: l) = tagsN n ++ tagsL l := by simp [tagsL]

/-! ### lists -/
theorem take_stop {p : UInt8 → Bool} {d : UInt8} {X : List UInt8} : ∀ {a : List UInt8}, (∀ c ∈ a, p c = true) → p d = false → (a ++ d :: X).takeWhile p = a ∧ (a ++ d :: X).dropWhile p = d :: X
  | [], _, hd => by simp [List.takeWhile_cons, List.dropWhile_cons, hd]
  | c :: a, h, hd => by
    have := take_stop (a := a) (X := X) (fun x hx => h x (by simp [hx])) hd
    rw [List.cons_append, List.takeWhile_cons, List.dropWhile_cons, if_pos (h c (by simp)), if_pos (h c (by simp)), this.1, this.2]
    exact ⟨rfl, rfl⟩
theorem map_same {f : UInt8 → UInt8} {l : List UInt8} (h : ∀ c ∈ l, f c = c) : l.map f = l := by
  induction l with
  | nil => rfl
  | cons c l ih => rw [List.map_cons, h c (by simp), ih fun x hx => h x (by simp [hx])]

theorem starts_ne {c : UInt8} {l : List UInt8} (h : c ≠ 60) : startsB (c :: l) = false := by
  cases l with
  | nil => rfl
  | cons d l => simp [startsB, h]
theorem charsB_stop {rest : List UInt8} (hr : rest = [] ∨ startsB rest = true) : ∀ a : List UInt8, (∀ c ∈ a, c ≠ 60) → charsB (a ++ rest) = (a, rest)
  | [], _ => by
    rcases hr with rfl | hr
    · rfl
    · obtain ⟨c, r, rfl, _⟩ := starts_form hr
      show charsB (60 :: c :: r) = _
      rw [charsB_cons, if_pos hr]
  | c :: a, h => by
    rw [List.cons_append, charsB_cons, if_neg (by rw [starts_ne (h c (by simp))]; decide), charsB_stop hr a fun x hx => h x (by simp [hx])]
theorem esc_ne60 (v : Bool) (l : List UInt8) : ∀ c ∈ escB v l, c ≠ 60 := by
  intro c hc e
  subst e
  have := esc_no60 v l
  rw [List.count_eq_zero] at this
  exact this hc
theorem esc_ne {v : Bool} {l : List UInt8} (h : l ≠ []) : escB v l ≠ [] := by
  intro e
  have := (escB_len v l).1
  rw [e] at this
  have h0 : l.length = 0 := by simpa using this
  exact h (List.eq_nil_of_length_eq_zero h0)

/-- A text, written. -/
theorem tok_text {t rest : List UInt8} (ht : t ≠ []) (hr : rest = [] ∨ startsB rest = true) : tokB (escB false t ++ rest) = tkC t :: tokB rest := by
  have h60 := esc_ne60 false t
  have hne := esc_ne (v := false) ht
  have hch := charsB_stop hr _ h60
  have hd := dec_esc false t
  obtain ⟨e, he⟩ : ∃ e, escB false t = e := ⟨_, rfl⟩
  rw [he] at h60 hne hch hd ⊢
  cases e with
  | nil => exact absurd rfl hne
  | cons c e =>
    rw [List.cons_append] at hch ⊢
    rw [tokB_chars (starts_ne (h60 c (by simp))), hch]
    show tkC (decB (c :: e)) :: _ = _
    rw [hd]

/-! ### comments -/
theorem pre3_iff (a b c : UInt8) (t : List UInt8) : Lib.hasPrefix (a :: b :: c :: t) [45, 45, 62] = (decide (a = 45) && decide (b = 45) && decide (c = 62)) := by
  have e : ∀ x y : UInt8, (x == y) = decide (y = x) := fun x y => by
    by_cases h : y = x
    · subst h; simp
    · rw [decide_eq_false h, beq_eq_false_iff_ne]
      exact fun e => h e.symm
  show ((45 == a) && ((45 == b) && ((62 == c) && true))) = _
  rw [e, e, e, Bool.and_true, Bool.and_assoc]
theorem noEnd_tail {c : UInt8} {t : List UInt8} (h : noEnd (c :: t) = true) : Lib.hasPrefix (c :: t) [45, 45, 62] = false ∧ noEnd t = true := by
  unfold noEnd at h
  rw [decide_eq_true_eq, upTo3_cons] at h
  split at h
  · cases h
  · rename_i hp
    injection h with _ h
    exact ⟨by simpa using hp, by unfold noEnd; rw [decide_eq_true_eq]; exact h⟩
theorem upTo3_stop (rest : List UInt8) : ∀ t : List UInt8, noEnd t = true → upTo3 (t ++ (45 :: 45 :: 62 :: rest)) = (t, rest)
  | [], _ => by
    show upTo3 (45 :: 45 :: 62 :: rest) = _
    rw [upTo3_cons, if_pos (by rw [pre3_iff]; rfl)]
    rfl
  | c :: t, h => by
    obtain ⟨hp, ht⟩ := noEnd_tail h
    have hno : Lib.hasPrefix (c :: (t ++ (45 :: 45 :: 62 :: rest))) [45, 45, 62] = false := by
      match t, hp with
      | [], hp => show Lib.hasPrefix (c :: 45 :: 45 :: 62 :: rest) _ = _; rw [pre3_iff]; simp
      | [d], hp => show Lib.hasPrefix (c :: d :: 45 :: 45 :: 62 :: rest) _ = _; rw [pre3_iff]; simp
      | d :: e :: t, hp => rw [pre3_iff] at hp; show Lib.hasPrefix (c :: d :: e :: (t ++ _)) _ = _; rw [pre3_iff]; exact hp
    rw [List.cons_append, upTo3_cons, if_neg (by rw [hno]; decide), upTo3_stop rest t ht]
theorem tok_remark {t rest : List UInt8} (ht : noEnd t = true) : tokB (60 :: 33 :: 45 :: 45 :: (t ++ (45 :: 45 :: 62 :: rest))) = tkR t :: tokB rest := by
  have h : startsB (60 :: 33 :: 45 :: 45 :: (t ++ (45 :: 45 :: 62 :: rest))) = true := rfl
  have hg : tagB (60 :: 33 :: 45 :: 45 :: (t ++ (45 :: 45 :: 62 :: rest))) = (some (tkR t), rest) := by rw [tagB_remark, upTo3_stop rest t ht]
  rw [tokB_tag (k := tkR t) h (by rw [hg]) rfl, hg]

/-! ### tags -/
theorem smC_let {c : UInt8} (h : smC c = true) : letC c = true := by
  unfold smC at h
  unfold letC
  simp at h ⊢
  omega
theorem namC_tag {c : UInt8} (h : namC c = true) : tagC c = true := by
  unfold namC smC at h
  unfold tagC letC
  simp at h ⊢
  omega
theorem namC_low {c : UInt8} (h : namC c = true) : lowB c = c := by
  unfold namC smC at h
  unfold lowB
  simp at h
  rw [if_neg (by omega)]
theorem attC_go {c : UInt8} (h : attC c = true) : goC c = true := by
  unfold attC at h
  unfold goC stopC blC
  simp at h ⊢
  omega
theorem attC_low {c : UInt8} (h : attC c = true) : lowB c = c := by
  unfold attC at h
  unfold lowB
  simp at h
  rw [if_neg (by omega)]
theorem named_form {l : List UInt8} (h : namedB l = true) : ∃ c t, l = c :: t ∧ smC c = true ∧ ∀ x ∈ l, namC x = true := by
  cases l with
  | nil => cases h
  | cons c t =>
    unfold namedB at h
    rw [Bool.and_eq_true, List.all_eq_true] at h
    exact ⟨c, t, rfl, h.1, h.2⟩
theorem attr_form {l : List UInt8} (h : attrB l = true) : (∃ c t, l = c :: t) ∧ (∀ x ∈ l, attC x = true) ∧ isB l = true := by
  unfold attrB at h
  rw [Bool.and_eq_true, Bool.and_eq_true, List.all_eq_true] at h
  refine ⟨?_, h.1.2, h.1.1⟩
  cases l with
  | nil => simp at h
  | cons c t => exact ⟨c, t, rfl⟩

/-- One attribute, written. -/
theorem att_one {a : ByteArray × ByteArray} (ha : attrB a.1.data.toList = true) (X : List UInt8) (acc : List (ByteArray × ByteArray)) : attsOf acc (attT a ++ X) = attsOf (addA acc a) X := by
  obtain ⟨⟨c, t, hct⟩, hall, _⟩ := attr_form ha
  have e : attT a ++ X = 32 :: (a.1.data.toList ++ 61 :: (34 :: (escB true a.2.data.toList ++ 34 :: X))) := by unfold attT; simp
  rw [e, attsOf_skip acc _ (by decide) (by decide)]
  have h1 := take_stop (p := goC) (d := 61) (X := 34 :: (escB true a.2.data.toList ++ 34 :: X)) (fun x hx => attC_go (hall x hx)) (by decide)
  have hq : neC 34 (34 : UInt8) = false := by decide
  have h2 := take_stop (p := neC 34) (d := 34) (X := X) (a := escB true a.2.data.toList) (fun x hx => by have := (esc_bare _ x hx).2.2; simp [neC, this]) hq
  have hbl : blC 61 = false := by decide
  have hbe : behind (a.1.data.toList ++ 61 :: (34 :: (escB true a.2.data.toList ++ 34 :: X))) = 61 :: (34 :: (escB true a.2.data.toList ++ 34 :: X)) := by
    unfold behind
    rw [h1.2, List.dropWhile_cons, if_neg (by rw [hbl]; decide)]
  have hnm : nameAt (a.1.data.toList ++ 61 :: (34 :: (escB true a.2.data.toList ++ 34 :: X))) = a.1.data.toList := by
    unfold nameAt
    rw [h1.1, map_same fun x hx => attC_low (hall x hx)]
  have hv : valOf ((34 :: (escB true a.2.data.toList ++ 34 :: X)).dropWhile blC) = some (escB true a.2.data.toList, X) := by
    rw [List.dropWhile_cons, if_neg (by decide), valOf_cons, if_pos (Or.inl rfl), if_pos (by simp), h2.1, h2.2]
    rfl
  have hat : attOf (a.1.data.toList ++ 61 :: (34 :: (escB true a.2.data.toList ++ 34 :: X))) = some (a, X) := by
    rw [attOf_eq hbe, hv, hnm]
    show some ((tB a.1.data.toList, tB (decB (escB true a.2.data.toList))), X) = _
    rw [dec_esc, tB_of, tB_of]
  have hc : stopC c = false := by
    have := attC_go (hall c (by rw [hct]; simp))
    simpa [goC] using this
  rw [hct, List.cons_append] at hat ⊢
  rw [attsOf_some acc hc hat]
theorem addA_new {acc : List (ByteArray × ByteArray)} {a : ByteArray × ByteArray} (h : ∀ x ∈ acc, x.1 ≠ a.1) : addA acc a = acc ++ [a] := by
  unfold addA
  rw [if_neg]
  rw [List.any_eq_true]
  rintro ⟨x, hx, he⟩
  exact h x hx (of_decide_eq_true he)
theorem atts_all (X : List UInt8) : ∀ (l acc : List (ByteArray × ByteArray)), (∀ a ∈ l, attrB a.1.data.toList = true) → l.Pairwise (fun a b => a.1 ≠ b.1) → (∀ a ∈ l, ∀ x ∈ acc, x.1 ≠ a.1) →
    attsOf acc (l.flatMap attT ++ 62 :: X) = some (acc ++ l, X)
  | [], acc, _, _, _ => by
    show attsOf acc (62 :: X) = _
    rw [attsOf_end, List.append_nil]
  | a :: l, acc, h1, h2, h3 => by
    rw [List.pairwise_cons] at h2
    rw [List.flatMap_cons, List.append_assoc, att_one (h1 a (by simp)), addA_new (h3 a (by simp)), atts_all X l _ (fun x hx => h1 x (by simp [hx])) h2.2 ?_]
    · rw [List.append_assoc]; rfl
    · intro x hx y hy
      rcases List.mem_append.1 hy with hy | hy
      · exact h3 x (by simp [hx]) y hy
      · simp only [List.mem_singleton] at hy
        subst hy
        exact h2.1 x hx

theorem open_starts {n : Nd} (h : namedB n.name.data.toList = true) (X : List UInt8) : startsB (openT n ++ X) = true := by
  obtain ⟨c, t, hct, hs, _⟩ := named_form h
  have e : openT n ++ X = 60 :: c :: (t ++ (n.attrs.flatMap attT ++ [62]) ++ X) := by unfold openT; rw [hct]; simp
  rw [e]
  simp [startsB, smC_let hs]
theorem open_tag {n : Nd} (h : namedB n.name.data.toList = true) (ha : attrsOK n.attrs) (X : List UInt8) : tagB (openT n ++ X) = (some (tkB n.name.data.toList n.attrs), X) := by
  obtain ⟨c, t, hct, hs, hall⟩ := named_form h
  have hat := atts_all X n.attrs [] (fun a ha' => (ha.1 a ha').1) ha.2 (by simp)
  have e : openT n ++ X = 60 :: (n.name.data.toList ++ (n.attrs.flatMap attT ++ 62 :: X)) := by unfold openT; simp
  obtain ⟨d, Y, hY, hd⟩ : ∃ d Y, n.attrs.flatMap attT ++ 62 :: X = d :: Y ∧ tagC d = false := by
    cases n.attrs with
    | nil => exact ⟨62, X, rfl, by decide⟩
    | cons a l => exact ⟨32, _, rfl, by decide⟩
  rw [hY] at e hat
  have h1 := take_stop (p := tagC) (d := d) (X := Y) (fun x hx => namC_tag (hall x hx)) hd
  rw [e]
  rw [hct] at h1 ⊢
  rw [List.cons_append] at h1 ⊢
  rw [tagB_letter (smC_let hs), h1.2, hat]
  show (some (tkB (List.map lowB (List.takeWhile tagC (c :: (t ++ d :: Y)))) ([] ++ n.attrs)), X) = _
  rw [h1.1, map_same fun x hx => namC_low (hall x (by rw [hct]; exact hx)), List.nil_append]
theorem close_starts (n : Nd) (X : List UInt8) : startsB (closeT n ++ X) = true := rfl
theorem named_no62 {l : List UInt8} (h : ∀ x ∈ l, namC x = true) : ∀ x ∈ l, neC 62 x = true := by
  intro x hx
  have := h x hx
  by_cases e : x = 62
  · subst e; cases this
  · simp [neC, e]
theorem close_tag {n : Nd} (h : namedB n.name.data.toList = true) (X : List UInt8) : tagB (closeT n ++ X) = (some (tkE n.name.data.toList), X) := by
  obtain ⟨c, t, hct, hs, hall⟩ := named_form h
  have e : closeT n ++ X = 60 :: 47 :: (n.name.data.toList ++ 62 :: X) := by unfold closeT; simp
  have h1 := take_stop (p := tagC) (d := 62) (X := X) (fun x hx => namC_tag (hall x hx)) (by decide)
  have h2 := take_stop (p := neC 62) (d := 62) (X := X) (named_no62 hall) (by decide)
  have hc62 : c ≠ 62 := fun e => by subst e; cases hs
  rw [e, tagB_slash]
  rw [hct] at h1 h2 ⊢
  rw [List.cons_append] at h1 h2 ⊢
  rw [slashB_cons, if_neg hc62, if_pos (smC_let hs), if_pos (by simp), h1.1, map_same fun x hx => namC_low (hall x (by rw [hct]; exact hx))]
  unfold upTo1
  rw [h2.2]
  rfl

/-! ### raw elements -/
theorem end_here {nm : List UInt8} (h : ∀ x ∈ nm, namC x = true) (X : List UInt8) : endAt nm (60 :: 47 :: (nm ++ 62 :: X)) = true := by
  have e : (60 :: 47 :: (nm ++ 62 :: X) : List UInt8) = (60 :: 47 :: nm) ++ 62 :: X := by simp
  have hl : (60 :: 47 :: nm : List UInt8).length = 2 + nm.length := by simp; omega
  unfold endAt
  rw [e, ← hl, List.take_left, List.drop_left, map_same (l := 60 :: 47 :: nm) ?_]
  · simp
  · intro x hx
    simp only [List.mem_cons] at hx
    rcases hx with rfl | rfl | hx
    · rfl
    · rfl
    · exact namC_low (h x hx)
theorem end_over {nm a Y : List UInt8} (h : ∀ x ∈ nm, x ≠ 60) (ha : a ≠ []) (he : endAt nm (a ++ 60 :: Y) = true) : endAt nm a = true := by
  unfold endAt at he ⊢
  rw [Bool.and_eq_true, decide_eq_true_eq] at he
  obtain ⟨h1, h2⟩ := he
  have ha0 : 0 < a.length := List.length_pos_iff.2 ha
  by_cases hl : a.length < 2 + nm.length
  · exfalso
    have hi : ((a ++ 60 :: Y).take (2 + nm.length)).map lowB = 60 :: 47 :: nm := h1
    have hg := congrArg (fun l => l[a.length]?) hi
    simp only [List.getElem?_map, List.getElem?_take, if_pos hl, List.getElem?_append_right (Nat.le_refl _), Nat.sub_self, List.getElem?_cons_zero, Option.map_some] at hg
    have h60 : lowB 60 = 60 := rfl
    rw [h60] at hg
    obtain ⟨k, hk⟩ : ∃ k, a.length = k + 1 := ⟨a.length - 1, by omega⟩
    rw [hk] at hg
    cases k with
    | zero => simp at hg
    | succ k =>
      simp only [List.getElem?_cons_succ] at hg
      exact h 60 (List.mem_of_getElem? hg.symm) rfl
  · by_cases hq : a.length = 2 + nm.length
    · exfalso
      rw [← hq, List.drop_left] at h2
      cases h2
    · rw [List.take_append_of_le_length (by omega)] at h1
      rw [List.drop_append_of_le_length (by omega)] at h2
      rw [Bool.and_eq_true, decide_eq_true_eq]
      refine ⟨h1, ?_⟩
      obtain ⟨x, t, hx⟩ : ∃ x t, a.drop (2 + nm.length) = x :: t := by
        cases hd : a.drop (2 + nm.length) with
        | nil =>
          have := congrArg List.length hd
          rw [List.length_drop] at this
          simp at this
          omega
        | cons x t => exact ⟨x, t, rfl⟩
      rw [hx] at h2 ⊢
      exact h2
theorem rawOK_tail {nm : List UInt8} {c : UInt8} {t : List UInt8} (h : rawOK nm (c :: t) = true) : endAt nm (c :: t) = false ∧ rawOK nm t = true := by
  unfold rawOK at h
  rw [decide_eq_true_eq, cutEnd_cons] at h
  split at h
  · cases h
  · rename_i hp
    injection h with _ h
    exact ⟨by simpa using hp, by unfold rawOK; rw [decide_eq_true_eq]; exact h⟩
theorem cutEnd_stop {nm : List UInt8} (hn : ∀ x ∈ nm, namC x = true) (X : List UInt8) : ∀ t : List UInt8, rawOK nm t = true → cutEnd nm (t ++ (60 :: 47 :: (nm ++ 62 :: X))) = (t, 60 :: 47 :: (nm ++ 62 :: X))
  | [], _ => by
    show cutEnd nm (60 :: 47 :: (nm ++ 62 :: X)) = _
    rw [cutEnd_cons, if_pos (end_here hn X)]
  | c :: t, h => by
    obtain ⟨hp, ht⟩ := rawOK_tail h
    have hno : endAt nm (c :: (t ++ (60 :: 47 :: (nm ++ 62 :: X)))) = false := by
      cases he : endAt nm (c :: (t ++ (60 :: 47 :: (nm ++ 62 :: X)))) with
      | false => rfl
      | true =>
        have := end_over (a := c :: t) (fun x hx e => by have := hn x hx; subst e; cases this) (by simp) he
        rw [hp] at this
        cases this
    rw [List.cons_append, cutEnd_cons, if_neg (by rw [hno]; decide), cutEnd_stop hn X t ht]

/-! ### nodes -/
theorem sides_one {l : List Nd} (hs : sides false l) (h : ∀ n ∈ l, n.kind = 2) : l = [] ∨ ∃ n, l = [n] ∧ n.text.data.toList ≠ [] := by
  match l, hs with
  | [], _ => exact .inl rfl
  | [n], hs => exact .inr ⟨n, rfl, (hs.1 (h n (by simp))).1⟩
  | n :: m :: l, hs =>
    have h1 := (hs.2.1 (h m (by simp))).2
    have h2 := h n (by simp)
    rw [h2] at h1
    cases h1
theorem raw_no_void {l : List UInt8} (h : rawB l = true) : voidB l = false := by
  unfold rawB at h
  rw [Bool.or_eq_true, decide_eq_true_eq, decide_eq_true_eq] at h
  rcases h with rfl | rfl <;> decide

/-- The tokens of one node, and of what stands behind it. -/
theorem tok_node {x : Nd} (hok : nodeOK x) (hst : stN x = true) (hks : sides false x.kids) (hkids : ∀ rest, rest = [] ∨ startsB rest = true → tokB (txtL false x.kids ++ rest) = tagsL x.kids ++ tokB rest)
    (rest : List UInt8) (hr : x.kind = 2 → x.text.data.toList ≠ [] ∧ (rest = [] ∨ startsB rest = true)) : tokB (txtN false x ++ rest) = tagsN x ++ tokB rest := by
  rw [stN_eq, Bool.and_eq_true, Bool.and_eq_true] at hst
  obtain ⟨⟨hst1, hst2⟩, _⟩ := hst
  rcases hok with ⟨h1, hn, ht, ha⟩ | ⟨h23, _, _, _, _⟩
  · have hopen := open_tag hn ha
    have hos := open_starts hn
    have hclose := close_tag hn
    rw [txtN_eq, tagsN_eq, h1, if_neg (by decide), if_neg (by decide), if_pos rfl, if_pos rfl]
    cases hv : voidB x.name.data.toList with
    | true =>
      have hraw : rawTk (tkB x.name.data.toList x.attrs) = false := by
        cases hw : rawTk (tkB x.name.data.toList x.attrs) with
        | false => rfl
        | true =>
          have : rawB x.name.data.toList = true := by simpa [rawTk, tkB, tB_list] using hw
          rw [raw_no_void this] at hv
          cases hv
      rw [if_pos rfl, if_pos rfl, tokB_tag (k := tkB x.name.data.toList x.attrs) (hos rest) (by rw [hopen]) hraw, hopen]
      rfl
    | false =>
      rw [if_neg (by decide), if_neg (by decide), List.append_assoc, List.append_assoc]
      have hend : tokB (closeT x ++ rest) = tkE x.name.data.toList :: tokB rest := by
        rw [tokB_tag (k := tkE x.name.data.toList) (close_starts x rest) (by rw [hclose]) rfl, hclose]
      cases hw : rawB x.name.data.toList with
      | false =>
        have hraw : rawTk (tkB x.name.data.toList x.attrs) = false := by simp [rawTk, tkB, tB_list, hw]
        rw [tokB_tag (k := tkB x.name.data.toList x.attrs) (hos _) (by rw [hopen]) hraw, hopen]
        show _ :: tokB (txtL false x.kids ++ (closeT x ++ rest)) = _
        rw [hkids _ (.inr (close_starts x rest)), hend]
        simp
      | true =>
        have hraw : rawTk (tkB x.name.data.toList x.attrs) = true := by simp [rawTk, tkB, tB_list, hw]
        obtain ⟨c, t, hct, hs, hall⟩ := named_form hn
        have hcl : closeT x ++ rest = 60 :: 47 :: (x.name.data.toList ++ 62 :: rest) := by unfold closeT; simp
        have hfit : ∀ n ∈ x.kids, n.kind = 2 ∧ rawOK x.name.data.toList n.text.data.toList = true := by
          intro n hnk
          have := List.all_eq_true.1 hst2 n hnk
          unfold fitsB at this
          rw [hv, if_neg (by decide), hw, if_pos rfl, Bool.and_eq_true, decide_eq_true_eq] at this
          exact this
        have hnm : (tkB x.name.data.toList x.attrs).name.data.toList = x.name.data.toList := tB_list _
        rw [tokB_raw (k := tkB x.name.data.toList x.attrs) (hos _) (by rw [hopen]) hraw, hopen, hnm]
        rcases sides_one hks (fun n hn' => (hfit n hn').1) with hk0 | ⟨m, hk1, hmt⟩
        · rw [hk0, txtL_nil, tagsL_nil]
          have hcut : cutEnd x.name.data.toList ([] ++ (closeT x ++ rest)) = ([], closeT x ++ rest) := by rw [hcl]; exact cutEnd_stop hall rest [] rfl
          show _ :: (rawBody (cutEnd x.name.data.toList ([] ++ (closeT x ++ rest))).1 ++ tokB (cutEnd x.name.data.toList ([] ++ (closeT x ++ rest))).2) = _
          rw [hcut, hend]
          rfl
        · have hm := hfit m (by rw [hk1]; simp)
          have htx : txtL true x.kids = m.text.data.toList := by rw [hk1, txtL_cons, txtL_nil, List.append_nil, txtN_eq, hm.1, if_neg (by decide), if_pos rfl, if_pos rfl]
          have htg : tagsL x.kids = [tkC m.text.data.toList] := by rw [hk1, tagsL_cons, tagsL_nil, List.append_nil, tagsN_eq, hm.1, if_neg (by decide), if_pos rfl]
          have hcut : cutEnd x.name.data.toList (m.text.data.toList ++ (closeT x ++ rest)) = (m.text.data.toList, closeT x ++ rest) := by rw [hcl]; exact cutEnd_stop hall rest _ hm.2
          rw [htx, htg]
          show _ :: (rawBody (cutEnd x.name.data.toList (m.text.data.toList ++ (closeT x ++ rest))).1 ++ tokB (cutEnd x.name.data.toList (m.text.data.toList ++ (closeT x ++ rest))).2) = _
          rw [hcut, hend]
          unfold rawBody
          rw [if_neg hmt]
          rfl
  · rcases h23 with h2 | h3
    · obtain ⟨ht, hrr⟩ := hr h2
      rw [txtN_eq, tagsN_eq, h2, if_neg (by decide), if_pos rfl, if_neg (by decide), if_neg (by decide), if_pos rfl]
      exact tok_text ht hrr
    · rw [h3] at hst1
      have hne : noEnd x.text.data.toList = true := by simpa using hst1
      rw [txtN_eq, tagsN_eq, h3, if_pos rfl, if_neg (by decide), if_neg (by decide), if_pos rfl]
      have e : (60 :: 33 :: 45 :: 45 :: (x.text.data.toList ++ [45, 45, 62]) : List UInt8) ++ rest = 60 :: 33 :: 45 :: 45 :: (x.text.data.toList ++ (45 :: 45 :: 62 :: rest)) := by simp
      rw [e]
      exact tok_remark hne

/-- What a node that is no text is written as begins a tag or a comment. -/
theorem node_starts {x : Nd} (hok : nodeOK x) (h : x.kind ≠ 2) (X : List UInt8) : startsB (txtN false x ++ X) = true := by
  rcases hok with ⟨h1, hn, ht, ha⟩ | ⟨h23, _, _, _, _⟩
  · rw [txtN_eq, h1, if_neg (by decide), if_neg (by decide), if_pos rfl]
    split
    · exact open_starts hn X
    · rw [List.append_assoc]
      exact open_starts hn _
  · rcases h23 with h2 | h3
    · exact absurd h2 h
    · rw [txtN_eq, if_pos h3]
      rfl

/-- The tokens of stable nodes' text are their tags. -/
theorem tok_write : ∀ l : List Nd, GoodL l → stL l = true → ∀ rest, rest = [] ∨ startsB rest = true → tokB (txtL false l ++ rest) = tagsL l ++ tokB rest := by
  intro l
  induction l using nd_ind with
  | h l ih =>
    intro hg hst
    have key : ∀ m : List Nd, (∀ x ∈ m, nodeOK x) → (∀ x ∈ m, stN x = true) → (∀ x ∈ m, sides false x.kids) → (∀ x ∈ m, ∀ rest, rest = [] ∨ startsB rest = true → tokB (txtL false x.kids ++ rest) = tagsL x.kids ++ tokB rest) →
        ∀ b, sides b m → ∀ rest, rest = [] ∨ startsB rest = true → tokB (txtL false m ++ rest) = tagsL m ++ tokB rest := by
      intro m
      induction m with
      | nil => intro _ _ _ _ b _ rest _; rw [txtL_nil, tagsL_nil]; rfl
      | cons x m ihm =>
        intro h1 h2 h3 h4 b hs rest hr
        have hm := ihm (fun y hy => h1 y (by simp [hy])) (fun y hy => h2 y (by simp [hy])) (fun y hy => h3 y (by simp [hy])) (fun y hy => h4 y (by simp [hy])) _ hs.2 rest hr
        rw [txtL_cons, tagsL_cons, List.append_assoc, List.append_assoc, ← hm]
        refine tok_node (h1 x (by simp)) (h2 x (by simp)) (h3 x (by simp)) (h4 x (by simp)) _ fun hk => ⟨(hs.1 hk).1, ?_⟩
        cases m with
        | nil => rw [txtL_nil]; exact hr
        | cons y m =>
          refine .inr ?_
          rw [txtL_cons, List.append_assoc]
          refine node_starts (h1 y (by simp)) (fun hy => ?_) _
          have := (hs.2.1 hy).2
          rw [hk] at this
          cases this
    rw [stL_all, List.all_eq_true] at hst
    refine key l hg.nodes (fun x hx => hst x hx) (fun x hx => (hg.kids x hx).sides_) (fun x hx => ?_) false hg.sides_
    obtain ⟨i, hi, he⟩ := List.mem_iff_getElem.1 hx
    have hsx := hst x hx
    rw [stN_eq, Bool.and_eq_true] at hsx
    exact ih i x (by rw [List.getElem?_eq_getElem hi, he]) (hg.kids x hx) hsx.2

end Go.Proofs.YthmnnalamaponaaGreat

/- Part TokS. -/
namespace Go.Proofs.YthmnnalamaponaaGreat
set_option linter.unusedVariables false
set_option linter.unusedSimpArgs false

/-! ### right texts, cut at bytes below 128 -/
theorem enc_cut {c : UInt8} {b : List UInt8} (hc : c.toNat < 128) : ∀ (L : List Int) (a : List UInt8), (∀ r ∈ L, okN r) → enc L = a ++ c :: b →
    ∃ L1 r L2, L = L1 ++ r :: L2 ∧ a = enc L1 ∧ Lib.encodeRune r = [c] ∧ b = enc L2
  | [], a, _, h => by
    rw [enc_nil] at h
    have := congrArg List.length h
    simp at this
  | r :: L, a, hL, h => by
    rw [enc_cons] at h
    have hr := hL r (by simp)
    have h0 : 0 ≤ r := by have := hr.1; unfold okR at this; omega
    rcases List.append_eq_append_iff.1 h with ⟨a', ha, hL'⟩ | ⟨b', hb, hb'⟩
    · obtain ⟨L1, s, L2, rfl, h1, h2, h3⟩ := enc_cut hc L a' (fun x hx => hL x (by simp [hx])) hL'
      exact ⟨r :: L1, s, L2, rfl, by rw [enc_cons, ← h1, ha], h2, h3⟩
    · cases b' with
      | nil =>
        rw [List.append_nil] at hb
        rw [List.nil_append] at hb'
        obtain ⟨L1, s, L2, hLL, h1, h2, h3⟩ := enc_cut hc L [] (fun x hx => hL x (by simp [hx])) (by rw [List.nil_append]; exact hb'.symm)
        exact ⟨r :: L1, s, L2, by rw [hLL]; rfl, by rw [enc_cons, ← h1, List.append_nil, hb], h2, h3⟩
      | cons d b' =>
        rw [List.cons_append] at hb'
        injection hb' with hd hb'
        subst hd
        by_cases h127 : r ≤ 127
        · have he := enc_one h0 h127
          rw [he] at hb
          cases a with
          | nil =>
            rw [List.nil_append] at hb
            injection hb with h1 h2
            subst h2
            rw [List.nil_append] at hb'
            exact ⟨[], r, L, rfl, rfl, by rw [he, h1], hb'⟩
          | cons x a =>
            have := congrArg List.length hb
            simp at this
        · have := enc_high hr.1 (by omega) c (by rw [hb]; simp)
          omega
theorem mem_take {p : UInt8 → Bool} : ∀ {l : List UInt8} {x : UInt8}, x ∈ l.takeWhile p → p x = true
  | [], x, h => by simp at h
  | c :: l, x, h => by
    rw [List.takeWhile_cons] at h
    split at h
    · rename_i hc
      rcases List.mem_cons.1 h with rfl | h
      · exact hc
      · exact mem_take h
    · simp at h
theorem rt_split {a b : List UInt8} {c : UInt8} (h : isB (a ++ c :: b) = true) (hc : c.toNat < 128) : isB a = true ∧ isB (c :: b) = true ∧ isB b = true := by
  obtain ⟨L, hL, he⟩ := isB_chars _ _ (Nat.le_refl _) h
  obtain ⟨L1, r, L2, rfl, h1, h2, h3⟩ := enc_cut hc L a hL he.symm
  have e : c :: b = enc (r :: L2) := by rw [enc_cons, h2, ← h3]; rfl
  rw [e, h1, h3]
  exact ⟨isB_enc _ fun x hx => hL x (by simp [hx]), isB_enc _ fun x hx => hL x (by
    rw [List.mem_append]; exact .inr hx), isB_enc _ fun x hx => hL x (by simp [hx])⟩
theorem rt_app {a b : List UInt8} (ha : isB a = true) (hb : isB b = true) : isB (a ++ b) = true := by
  obtain ⟨L, hL, rfl⟩ := isB_chars _ _ (Nat.le_refl _) ha
  obtain ⟨M, hM, rfl⟩ := isB_chars _ _ (Nat.le_refl _) hb
  rw [← enc_append]
  refine isB_enc _ fun r hr => ?_
  rcases List.mem_append.1 hr with hr | hr
  · exact hL r hr
  · exact hM r hr
theorem rt_asc : ∀ {a b : List UInt8}, (∀ c ∈ a, c.toNat < 128) → isB (a ++ b) = true → isB b = true
  | [], b, _, h => h
  | c :: a, b, ha, h => rt_asc (a := a) (fun x hx => ha x (List.mem_cons_of_mem _ hx)) (rt_split (a := []) (by rw [List.nil_append]; exact h) (ha c (by simp))).2.2
theorem rt_while {p : UInt8 → Bool} (hp : ∀ c : UInt8, 128 ≤ c.toNat → p c = true) {l : List UInt8} (h : isB l = true) : isB (l.takeWhile p) = true ∧ isB (l.dropWhile p) = true := by
  have e : l.takeWhile p ++ l.dropWhile p = l := List.takeWhile_append_dropWhile
  cases hd : l.dropWhile p with
  | nil =>
    rw [hd, List.append_nil] at e
    rw [e]
    exact ⟨h, rfl⟩
  | cons d t =>
    have hpd : p d = false := by
      have := List.head?_dropWhile_not p l
      rw [hd] at this
      simpa using this
    have hlt : d.toNat < 128 := by
      rcases Nat.lt_or_ge d.toNat 128 with h' | h'
      · exact h'
      · rw [hp d h'] at hpd; cases hpd
    rw [← e, hd] at h
    have := rt_split h hlt
    exact ⟨this.1, this.2.1⟩
theorem rt_skip {p : UInt8 → Bool} (hp : ∀ c : UInt8, p c = true → c.toNat < 128) {l : List UInt8} (h : isB l = true) : isB (l.dropWhile p) = true := by
  have e : l.takeWhile p ++ l.dropWhile p = l := List.takeWhile_append_dropWhile
  rw [← e] at h
  refine rt_asc (fun c hc => hp c ?_) h
  exact mem_take hc
theorem rt_tail {c : UInt8} {t : List UInt8} (h : isB (c :: t) = true) (hc : c.toNat < 128) : isB t = true := (rt_split (a := []) (by rw [List.nil_append]; exact h) hc).2.2
/-- What stands behind the byte at which a while stops. -/
theorem rt_drop1 {p : UInt8 → Bool} (hp : ∀ c : UInt8, 128 ≤ c.toNat → p c = true) {l : List UInt8} (h : isB l = true) : isB ((l.dropWhile p).drop 1) = true := by
  have h2 := (rt_while hp h).2
  cases hd : l.dropWhile p with
  | nil => rfl
  | cons d t =>
    have hpd : p d = false := by
      have := List.head?_dropWhile_not p l
      rw [hd] at this
      simpa using this
    rw [hd] at h2
    rw [List.drop_succ_cons, List.drop_zero]
    refine rt_tail h2 ?_
    rcases Nat.lt_or_ge d.toNat 128 with h' | h'
    · exact h'
    · rw [hp d h'] at hpd; cases hpd
theorem rt_dec {l : List UInt8} (h : isB l = true) : isB (decB l) = true := by
  obtain ⟨L, hL, rfl⟩ := isB_chars _ _ (Nat.le_refl _) h
  obtain ⟨M, hM, he⟩ := dec_right _ L (Nat.le_refl _) hL
  rw [he]
  exact isB_enc _ hM
theorem dec_ne : ∀ {l : List UInt8}, l ≠ [] → decB l ≠ []
  | [], h => absurd rfl h
  | c :: t, _ => by
    rw [decB_cons]
    split
    · split
      · simp
      · intro e
        have := (encodeRune_le (oneB (c :: t)).1).1
        have h2 := congrArg List.length e
        rw [List.length_append, List.length_nil] at h2
        omega
    · simp
theorem low_high {c : UInt8} (h : 128 ≤ c.toNat) : lowB c = c := by
  unfold lowB
  rw [if_neg (by omega)]
theorem rt_low {l : List UInt8} (h : isB l = true) : isB (l.map lowB) = true := by
  obtain ⟨L, hL, rfl⟩ := isB_chars _ _ (Nat.le_refl _) h
  clear h
  induction L with
  | nil => rfl
  | cons r L ih =>
    have hr := hL r (by simp)
    have h0 : 0 ≤ r := by have := hr.1; unfold okR at this; omega
    rw [enc_cons, List.map_append]
    refine rt_app ?_ (ih fun x hx => hL x (by simp [hx]))
    by_cases h127 : r ≤ 127
    · rw [enc_one h0 h127]
      have ht : (r.toNat.toUInt8).toNat = r.toNat := by simp; omega
      have hlow := lowB_toNat (r.toNat.toUInt8)
      rw [ht] at hlow
      refine asc_right _ fun x hx => ?_
      simp only [List.map_cons, List.map_nil, List.mem_singleton] at hx
      subst hx
      rw [hlow]
      have h1 := hr.2.1
      have h2 := hr.2.2
      split <;> omega
    · rw [map_same fun x hx => low_high (enc_high hr.1 (by omega) x hx)]
      have := isB_enc [r] (fun x hx => by simp only [List.mem_singleton] at hx; subst hx; exact hr)
      rwa [enc_cons, enc_nil, List.append_nil] at this

/-! ### which bytes -/
theorem goC_high (c : UInt8) (h : 128 ≤ c.toNat) : goC c = true := by
  unfold goC stopC blC
  simp
  omega
theorem valC_high (c : UInt8) (h : 128 ≤ c.toNat) : valC c = true := by
  unfold valC blC
  simp
  omega
theorem neC_high {q : UInt8} (hq : q.toNat < 128) (c : UInt8) (h : 128 ≤ c.toNat) : neC q c = true := by
  unfold neC
  have : c ≠ q := fun e => by subst e; omega
  simp [this]
theorem blC_low (c : UInt8) (h : blC c = true) : c.toNat < 128 := by
  unfold blC at h
  simp at h
  omega
theorem tagC_low (c : UInt8) (h : tagC c = true) : c.toNat < 128 := by
  unfold tagC letC at h
  simp at h
  omega
theorem stopC_low (c : UInt8) (h : stopC c = true) : c.toNat < 128 := by
  unfold stopC blC at h
  simp at h
  omega
theorem attC_of {c : UInt8} (h : goC c = true) : attC (lowB c) = true := by
  have h1 := lowB_toNat c
  unfold goC stopC blC at h
  unfold attC
  simp at h ⊢
  split at h1 <;> omega
theorem namC_of {c : UInt8} (h : tagC c = true) : namC (lowB c) = true := by
  have h1 := lowB_toNat c
  unfold tagC letC at h
  unfold namC smC
  simp at h ⊢
  split at h1 <;> omega
theorem smC_of {c : UInt8} (h : letC c = true) : smC (lowB c) = true := by
  have h1 := lowB_toNat c
  unfold letC at h
  unfold smC
  simp at h ⊢
  split at h1 <;> omega
theorem let_tag {c : UInt8} (h : letC c = true) : tagC c = true := by unfold tagC; rw [h]; rfl

/-! ### attributes -/
theorem valOf_rt {l : List UInt8} {x : List UInt8 × List UInt8} (hl : isB l = true) (h : valOf l = some x) : isB x.1 = true ∧ isB x.2 = true := by
  cases l with
  | nil =>
    have h' : some (([], []) : List UInt8 × List UInt8) = some x := h
    injection h' with h'
    subst h'
    exact ⟨rfl, rfl⟩
  | cons q r =>
    rw [valOf_cons] at h
    split at h
    · rename_i hq
      have hq' : q.toNat < 128 := by rcases hq with rfl | rfl <;> decide
      have hr := rt_tail hl hq'
      split at h
      · injection h with h
        subst h
        exact ⟨(rt_while (neC_high hq') hr).1, rt_drop1 (neC_high hq') hr⟩
      · cases h
    · injection h with h
      subst h
      exact rt_while valC_high hl
theorem behind_rt {l : List UInt8} (hl : isB l = true) : isB (behind l) = true := rt_skip blC_low (rt_while goC_high hl).2
theorem nameAt_ok {c : UInt8} {r : List UInt8} (hl : isB (c :: r) = true) (hc : stopC c = false) : attrB (nameAt (c :: r)) = true := by
  unfold attrB nameAt
  have hg : goC c = true := by simp [goC, hc]
  rw [Bool.and_eq_true, Bool.and_eq_true]
  refine ⟨⟨rt_low (rt_while goC_high hl).1, ?_⟩, ?_⟩
  · rw [List.all_eq_true]
    intro x hx
    obtain ⟨y, hy, rfl⟩ := List.mem_map.1 hx
    exact attC_of (mem_take hy)
  · rw [List.takeWhile_cons, if_pos hg]
    rfl
theorem attOf_ok {c : UInt8} {r : List UInt8} {x : (ByteArray × ByteArray) × List UInt8} (hl : isB (c :: r) = true) (hc : stopC c = false) (h : attOf (c :: r) = some x) :
    attrB x.1.1.data.toList = true ∧ isB x.1.2.data.toList = true ∧ isB x.2 = true := by
  have hn := nameAt_ok hl hc
  have hb := behind_rt hl
  cases hbe : behind (c :: r) with
  | nil =>
    rw [attOf_nil hbe] at h
    injection h with h
    subst h
    exact ⟨by rw [tB_list]; exact hn, by rw [tB_list]; rfl, rfl⟩
  | cons c' r' =>
    rw [hbe] at hb
    by_cases he : c' = 61
    · subst he
      rw [attOf_eq hbe] at h
      cases hv : valOf (r'.dropWhile blC) with
      | none => rw [hv] at h; cases h
      | some y =>
        rw [hv] at h
        injection h with h
        subst h
        have := valOf_rt (rt_skip blC_low (rt_tail hb (by decide))) hv
        exact ⟨by rw [tB_list]; exact hn, by rw [tB_list]; exact rt_dec this.1, this.2⟩
    · rw [attOf_other hbe he] at h
      injection h with h
      subst h
      exact ⟨by rw [tB_list]; exact hn, by rw [tB_list]; rfl, hb⟩
theorem addA_ok {acc : List (ByteArray × ByteArray)} {a : ByteArray × ByteArray} (h : attrsOK acc) (h1 : attrB a.1.data.toList = true) (h2 : isB a.2.data.toList = true) : attrsOK (addA acc a) := by
  unfold addA
  split
  · exact h
  · rename_i hn
    have hno : ∀ x ∈ acc, x.1 ≠ a.1 := fun x hx he => hn (List.any_eq_true.2 ⟨x, hx, by simp [he]⟩)
    refine ⟨fun y hy => ?_, ?_⟩
    · rcases List.mem_append.1 hy with hy | hy
      · exact h.1 y hy
      · simp only [List.mem_singleton] at hy
        subst hy
        exact ⟨h1, h2⟩
    · rw [List.pairwise_append]
      refine ⟨h.2, List.pairwise_singleton _ _, fun x hx y hy => ?_⟩
      simp only [List.mem_singleton] at hy
      subst hy
      exact hno x hx
theorem attsOf_ok : ∀ (n : Nat) (l : List UInt8) (acc : List (ByteArray × ByteArray)) (x : List (ByteArray × ByteArray) × List UInt8), l.length ≤ n → isB l = true → attrsOK acc → attsOf acc l = some x → attrsOK x.1 ∧ isB x.2 = true
  | n, [], acc, x, _, _, _, h => by rw [attsOf_nil] at h; cases h
  | 0, c :: r, acc, x, hn, _, _, h => by simp at hn
  | n + 1, c :: r, acc, x, hn, hl, ha, h => by
    rw [List.length_cons] at hn
    by_cases h1 : c = 62
    · subst h1
      rw [attsOf_end] at h
      injection h with h
      subst h
      exact ⟨ha, rt_tail hl (by decide)⟩
    cases h2 : stopC c with
    | true =>
      rw [attsOf_skip acc r h1 h2] at h
      exact attsOf_ok n r acc x (by omega) (rt_tail hl (stopC_low c h2)) ha h
    | false =>
      cases h3 : attOf (c :: r) with
      | none => rw [attsOf_none acc h2 h3] at h; cases h
      | some y =>
        rw [attsOf_some acc h2 h3] at h
        have h4 := attOf_len h2 h3
        rw [List.length_cons] at h4
        have h5 := attOf_ok hl h2 h3
        exact attsOf_ok n y.2 _ x (by omega) h5.2.2 (addA_ok ha h5.1 h5.2.1) h

/-! ### comments, ends, characters -/
theorem pre_rt3 {a b c : UInt8} {l : List UInt8} (ha : a.toNat < 128) (hb : b.toNat < 128) (hc : c.toNat < 128) (h : isB (a :: b :: c :: l) = true) : isB l = true := rt_tail (rt_tail (rt_tail h ha) hb) hc
theorem upTo3_form : ∀ l : List UInt8, (l = (upTo3 l).1 ∧ (upTo3 l).2 = []) ∨ l = (upTo3 l).1 ++ (45 :: 45 :: 62 :: (upTo3 l).2)
  | [] => .inl ⟨rfl, rfl⟩
  | c :: r => by
    rw [upTo3_cons]
    split
    · rename_i hp
      obtain ⟨t, ht⟩ := pre_form3 hp
      rw [ht]
      exact .inr rfl
    · rcases upTo3_form r with ⟨h1, h2⟩ | h
      · exact .inl ⟨congrArg (c :: ·) h1, h2⟩
      · exact .inr (congrArg (c :: ·) h)
theorem upTo3_rt {l : List UInt8} (h : isB l = true) : isB (upTo3 l).1 = true ∧ isB (upTo3 l).2 = true := by
  rcases upTo3_form l with ⟨h1, h2⟩ | h1
  · rw [← h1, h2]; exact ⟨h, rfl⟩
  · rw [h1] at h
    have := rt_split h (by decide)
    exact ⟨this.1, pre_rt3 (by decide) (by decide) (by decide) this.2.1⟩
theorem upTo3_noEnd : ∀ l : List UInt8, noEnd (upTo3 l).1 = true
  | [] => rfl
  | c :: r => by
    have ih := upTo3_noEnd r
    rw [upTo3_cons]
    split
    · rfl
    · rename_i hp
      show noEnd (c :: (upTo3 r).1) = true
      have hno : Lib.hasPrefix (c :: (upTo3 r).1) [45, 45, 62] = false := by
        cases hq : Lib.hasPrefix (c :: (upTo3 r).1) [45, 45, 62] with
        | false => rfl
        | true =>
          obtain ⟨t, ht⟩ := pre_form3 hq
          exfalso
          apply hp
          injection ht with h1 h2
          subst h1
          rcases upTo3_form r with ⟨h3, _⟩ | h3
          · rw [h3, h2, pre3_iff]; rfl
          · rw [h3, h2]; exact pre3_iff _ _ _ _
      unfold noEnd at ih ⊢
      rw [decide_eq_true_eq] at ih ⊢
      rw [upTo3_cons, if_neg (by rw [hno]; decide), ih]
theorem noEnd_of {l : List UInt8} (h : ∀ c ∈ l, c ≠ 62) : noEnd l = true := by
  unfold noEnd
  rw [decide_eq_true_eq]
  induction l with
  | nil => rfl
  | cons c r ih =>
    rw [upTo3_cons, if_neg, ih fun x hx => h x (by simp [hx])]
    intro hp
    obtain ⟨t, ht⟩ := pre_form3 hp
    exact h 62 (by rw [ht]; simp) rfl
theorem upTo1_ok {l : List UInt8} (h : isB l = true) : isB (upTo1 l).1 = true ∧ isB (upTo1 l).2 = true ∧ noEnd (upTo1 l).1 = true := by
  have hq : (62 : UInt8).toNat < 128 := by decide
  refine ⟨(rt_while (neC_high hq) h).1, rt_drop1 (neC_high hq) h, noEnd_of fun c hc e => ?_⟩
  have := mem_take (p := neC 62) hc
  subst e
  cases this
theorem cutEnd_form (nm : List UInt8) : ∀ l : List UInt8, (cutEnd nm l).2 = [] ∨ endAt nm (cutEnd nm l).2 = true
  | [] => .inl rfl
  | c :: r => by
    rw [cutEnd_cons]
    split
    · rename_i h
      exact .inr h
    · exact cutEnd_form nm r
theorem end_more {nm a : List UInt8} (b : List UInt8) (h : endAt nm a = true) : endAt nm (a ++ b) = true := by
  unfold endAt at h ⊢
  rw [Bool.and_eq_true, decide_eq_true_eq] at h ⊢
  obtain ⟨h1, h2⟩ := h
  cases hd : a.drop (2 + nm.length) with
  | nil => rw [hd] at h2; cases h2
  | cons x t =>
    have hlt : 2 + nm.length < a.length := by
      have := congrArg List.length hd
      rw [List.length_drop, List.length_cons] at this
      omega
    rw [List.take_append_of_le_length (by omega), List.drop_append_of_le_length (by omega), hd]
    rw [hd] at h2
    exact ⟨h1, h2⟩
theorem cutEnd_rawOK (nm : List UInt8) : ∀ l : List UInt8, rawOK nm (cutEnd nm l).1 = true
  | [] => rfl
  | c :: r => by
    have ih := cutEnd_rawOK nm r
    rw [cutEnd_cons]
    split
    · rfl
    · rename_i hp
      show rawOK nm (c :: (cutEnd nm r).1) = true
      have hno : endAt nm (c :: (cutEnd nm r).1) = false := by
        cases hq : endAt nm (c :: (cutEnd nm r).1) with
        | false => rfl
        | true =>
          exfalso
          apply hp
          have := end_more (cutEnd nm r).2 hq
          rwa [List.cons_append, cutEnd_app] at this
      unfold rawOK at ih ⊢
      rw [decide_eq_true_eq] at ih ⊢
      rw [cutEnd_cons, if_neg (by rw [hno]; decide), ih]
theorem low_inv {c d : UInt8} (h : lowB c = d) (hd : ¬ (97 ≤ d.toNat ∧ d.toNat ≤ 122)) : c = d := by
  have h1 := lowB_toNat c
  rw [h] at h1
  split at h1
  · omega
  · exact UInt8.toNat_inj.1 h1.symm
/-- A raw element's end: </, its name in whatever letters, and what ends a name. -/
theorem end_form {nm l : List UInt8} (h : endAt nm l = true) : ∃ nm' d r, l = 60 :: 47 :: (nm' ++ d :: r) ∧ nm'.map lowB = nm ∧ (blC d = true ∨ d = 47 ∨ d = 62) := by
  unfold endAt at h
  rw [Bool.and_eq_true, decide_eq_true_eq] at h
  obtain ⟨h1, h2⟩ := h
  have he := List.take_append_drop (2 + nm.length) l
  cases hd : l.drop (2 + nm.length) with
  | nil => rw [hd] at h2; cases h2
  | cons d r =>
    rw [hd] at h2 he
    obtain ⟨u, hu⟩ : ∃ u, l.take (2 + nm.length) = u := ⟨_, rfl⟩
    rw [hu] at h1 he
    obtain ⟨a, b, u', rfl⟩ : ∃ a b u', u = a :: b :: u' := by
      match u, h1 with
      | [], h1 => simp at h1
      | [x], h1 => simp at h1
      | a :: b :: u', _ => exact ⟨a, b, u', rfl⟩
    · simp only [List.map_cons] at h1
      injection h1 with h3 h1
      injection h1 with h4 h1
      have ha := low_inv h3 (by decide)
      have hb := low_inv h4 (by decide)
      subst ha
      subst hb
      refine ⟨u', d, r, by rw [← he]; rfl, h1, ?_⟩
      rw [Bool.or_eq_true, Bool.or_eq_true, decide_eq_true_eq, decide_eq_true_eq] at h2
      rcases h2 with (h2 | h2) | h2
      · exact .inl h2
      · exact .inr (.inl h2)
      · exact .inr (.inr h2)
theorem cutEnd_rt {nm l : List UInt8} (h : isB l = true) : isB (cutEnd nm l).1 = true ∧ isB (cutEnd nm l).2 = true := by
  have he := cutEnd_app nm l
  rcases cutEnd_form nm l with h1 | h1
  · rw [h1, List.append_nil] at he
    rw [he, h1]
    exact ⟨h, rfl⟩
  · obtain ⟨nm', d, r, hf, _, _⟩ := end_form h1
    rw [← he, hf] at h
    have := rt_split h (by decide)
    rw [hf]
    exact ⟨this.1, this.2.1⟩
theorem charsB_app : ∀ l : List UInt8, (charsB l).1 ++ (charsB l).2 = l ∧ ((charsB l).2 = [] ∨ startsB (charsB l).2 = true)
  | [] => ⟨rfl, .inl rfl⟩
  | c :: r => by
    rw [charsB_cons]
    split
    · rename_i h
      exact ⟨rfl, .inr h⟩
    · have := charsB_app r
      exact ⟨congrArg (c :: ·) this.1, this.2⟩
theorem charsB_rt {l : List UInt8} (h : isB l = true) : isB (charsB l).1 = true ∧ isB (charsB l).2 = true := by
  obtain ⟨he, h1⟩ := charsB_app l
  rcases h1 with h1 | h1
  · rw [h1, List.append_nil] at he
    rw [he, h1]
    exact ⟨h, rfl⟩
  · obtain ⟨c, r, hf, _⟩ := starts_form h1
    rw [← he, hf] at h
    have := rt_split h (by decide)
    rw [hf]
    exact ⟨this.1, this.2.1⟩

end Go.Proofs.YthmnnalamaponaaGreat
