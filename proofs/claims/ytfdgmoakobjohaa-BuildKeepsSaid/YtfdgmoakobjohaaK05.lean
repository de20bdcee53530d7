/- Parts of the proof, in build order: TokS TokT BldM. -/
import Derived.Test.YtfdgmoakobjohaaK04

/- Part TokS. -/
namespace Go.Proofs.Ytfdgmoakobjohaa
set_option linter.unusedVariables false
set_option linter.unusedSimpArgs false

/-! ### right texts, cut at bytes below 128 -/
theorem enc_cut {c : UInt8} {b : List UInt8} (hc : c.toNat < 128) : ∀ (L : List Int) (a : List UInt8), (∀ r ∈ L, okN r) → enc L = a ++ c :: b →
    ∃ L1 r L2, L = L1 ++ r :: L2 ∧ a = enc L1 ∧ Lib.encodeRune r = [c] ∧ b = enc L2
  | [], a, _, h => by
    rw [enc_nil] at h
    have := congrArg List.length h
    simp at this
  | r :: L, a, hL, h => by
    rw [enc_cons] at h
    have hr := hL r (by simp)
    have h0 : 0 ≤ r := by have := hr.1; unfold okR at this; omega
    rcases List.append_eq_append_iff.1 h with ⟨a', ha, hL'⟩ | ⟨b', hb, hb'⟩
    · obtain ⟨L1, s, L2, rfl, h1, h2, h3⟩ := enc_cut hc L a' (fun x hx => hL x (by simp [hx])) hL'
      exact ⟨r :: L1, s, L2, rfl, by rw [enc_cons, ← h1, ha], h2, h3⟩
    · cases b' with
      | nil =>
        rw [List.append_nil] at hb
        rw [List.nil_append] at hb'
        obtain ⟨L1, s, L2, hLL, h1, h2, h3⟩ := enc_cut hc L [] (fun x hx => hL x (by simp [hx])) (by rw [List.nil_append]; exact hb'.symm)
        exact ⟨r :: L1, s, L2, by rw [hLL]; rfl, by rw [enc_cons, ← h1, List.append_nil, hb], h2, h3⟩
      | cons d b' =>
        rw [List.cons_append] at hb'
        injection hb' with hd hb'
        subst hd
        by_cases h127 : r ≤ 127
        · have he := enc_one h0 h127
          rw [he] at hb
          cases a with
          | nil =>
            rw [List.nil_append] at hb
            injection hb with h1 h2
            subst h2
            rw [List.nil_append] at hb'
            exact ⟨[], r, L, rfl, rfl, by rw [he, h1], hb'⟩
          | cons x a =>
            have := congrArg List.length hb
            simp at this
        · have := enc_high hr.1 (by omega) c (by rw [hb]; simp)
          omega
theorem mem_take {p : UInt8 → Bool} : ∀ {l : List UInt8} {x : UInt8}, x ∈ l.takeWhile p → p x = true
  | [], x, h => by simp at h
  | c :: l, x, h => by
    rw [List.takeWhile_cons] at h
    split at h
    · rename_i hc
      rcases List.mem_cons.1 h with rfl | h
      · exact hc
      · exact mem_take h
    · simp at h
theorem rt_split {a b : List UInt8} {c : UInt8} (h : isB (a ++ c :: b) = true) (hc : c.toNat < 128) : isB a = true ∧ isB (c :: b) = true ∧ isB b = true := by
  obtain ⟨L, hL, he⟩ := isB_chars _ _ (Nat.le_refl _) h
  obtain ⟨L1, r, L2, rfl, h1, h2, h3⟩ := enc_cut hc L a hL he.symm
  have e : c :: b = enc (r :: L2) := by rw [enc_cons, h2, ← h3]; rfl
  rw [e, h1, h3]
  exact ⟨isB_enc _ fun x hx => hL x (by simp [hx]), isB_enc _ fun x hx => hL x (by
    rw [List.mem_append]; exact .inr hx), isB_enc _ fun x hx => hL x (by simp [hx])⟩
theorem rt_app {a b : List UInt8} (ha : isB a = true) (hb : isB b = true) : isB (a ++ b) = true := by
  obtain ⟨L, hL, rfl⟩ := isB_chars _ _ (Nat.le_refl _) ha
  obtain ⟨M, hM, rfl⟩ := isB_chars _ _ (Nat.le_refl _) hb
  rw [← enc_append]
  refine isB_enc _ fun r hr => ?_
  rcases List.mem_append.1 hr with hr | hr
  · exact hL r hr
  · exact hM r hr
theorem rt_asc : ∀ {a b : List UInt8}, (∀ c ∈ a, c.toNat < 128) → isB (a ++ b) = true → isB b = true
  | [], b, _, h => h
  | c :: a, b, ha, h => rt_asc (a := a) (fun x hx => ha x (List.mem_cons_of_mem _ hx)) (rt_split (a := []) (by rw [List.nil_append]; exact h) (ha c (by simp))).2.2
theorem rt_while {p : UInt8 → Bool} (hp : ∀ c : UInt8, 128 ≤ c.toNat → p c = true) {l : List UInt8} (h : isB l = true) : isB (l.takeWhile p) = true ∧ isB (l.dropWhile p) = true := by
  have e : l.takeWhile p ++ l.dropWhile p = l := List.takeWhile_append_dropWhile
  cases hd : l.dropWhile p with
  | nil =>
    rw [hd, List.append_nil] at e
    rw [e]
    exact ⟨h, rfl⟩
  | cons d t =>
    have hpd : p d = false := by
      have := List.head?_dropWhile_not p l
      rw [hd] at this
      simpa using this
    have hlt : d.toNat < 128 := by
      rcases Nat.lt_or_ge d.toNat 128 with h' | h'
      · exact h'
      · rw [hp d h'] at hpd; cases hpd
    rw [← e, hd] at h
    have := rt_split h hlt
    exact ⟨this.1, this.2.1⟩
theorem rt_skip {p : UInt8 → Bool} (hp : ∀ c : UInt8, p c = true → c.toNat < 128) {l : List UInt8} (h : isB l = true) : isB (l.dropWhile p) = true := by
  have e : l.takeWhile p ++ l.dropWhile p = l := List.takeWhile_append_dropWhile
  rw [← e] at h
  refine rt_asc (fun c hc => hp c ?_) h
  exact mem_take hc
theorem rt_tail {c : UInt8} {t : List UInt8} (h : isB (c :: t) = true) (hc : c.toNat < 128) : isB t = true := (rt_split (a := []) (by rw [List.nil_append]; exact h) hc).2.2
/-- What stands behind the byte at which a while stops. -/
theorem rt_drop1 {p : UInt8 → Bool} (hp : ∀ c : UInt8, 128 ≤ c.toNat → p c = true) {l : List UInt8} (h : isB l = true) : isB ((l.dropWhile p).drop 1) = true := by
  have h2 := (rt_while hp h).2
  cases hd : l.dropWhile p with
  | nil => rfl
  | cons d t =>
    have hpd : p d = false := by
      have := List.head?_dropWhile_not p l
      rw [hd] at this
      simpa using this
    rw [hd] at h2
    rw [List.drop_succ_cons, List.drop_zero]
    refine rt_tail h2 ?_
    rcases Nat.lt_or_ge d.toNat 128 with h' | h'
    · exact h'
    · rw [hp d h'] at hpd; cases hpd
theorem rt_dec {l : List UInt8} (h : isB l = true) : isB (decB l) = true := by
  obtain ⟨L, hL, rfl⟩ := isB_chars _ _ (Nat.le_refl _) h
  obtain ⟨M, hM, he⟩ := dec_right _ L (Nat.le_refl _) hL
  rw [he]
  exact isB_enc _ hM
theorem dec_ne : ∀ {l : List UInt8}, l ≠ [] → decB l ≠ []
  | [], h => absurd rfl h
  | c :: t, _ => by
    rw [decB_cons]
    split
    · split
      · simp
      · intro e
        have := (encodeRune_le (oneB (c :: t)).1).1
        have h2 := congrArg List.length e
        rw [List.length_append, List.length_nil] at h2
        omega
    · simp
theorem low_high {c : UInt8} (h : 128 ≤ c.toNat) : lowB c = c := by
  unfold lowB
  rw [if_neg (by omega)]
theorem rt_low {l : List UInt8} (h : isB l = true) : isB (l.map lowB) = true := by
  obtain ⟨L, hL, rfl⟩ := isB_chars _ _ (Nat.le_refl _) h
  clear h
  induction L with
  | nil => rfl
  | cons r L ih =>
    have hr := hL r (by simp)
    have h0 : 0 ≤ r := by have := hr.1; unfold okR at this; omega
    rw [enc_cons, List.map_append]
    refine rt_app ?_ (ih fun x hx => hL x (by simp [hx]))
    by_cases h127 : r ≤ 127
    · rw [enc_one h0 h127]
      have ht : (r.toNat.toUInt8).toNat = r.toNat := by simp; omega
      have hlow := lowB_toNat (r.toNat.toUInt8)
      rw [ht] at hlow
      refine asc_right _ fun x hx => ?_
      simp only [List.map_cons, List.map_nil, List.mem_singleton] at hx
      subst hx
      rw [hlow]
      have h1 := hr.2.1
      have h2 := hr.2.2
      split <;> omega
    · rw [map_same fun x hx => low_high (enc_high hr.1 (by omega) x hx)]
      have := isB_enc [r] (fun x hx => by simp only [List.mem_singleton] at hx; subst hx; exact hr)
      rwa [enc_cons, enc_nil, List.append_nil] at this

/-! ### which bytes -/
theorem goC_high (c : UInt8) (h : 128 ≤ c.toNat) : goC c = true := by
  unfold goC stopC blC
  simp
  omega
theorem valC_high (c : UInt8) (h : 128 ≤ c.toNat) : valC c = true := by
  unfold valC blC
  simp
  omega
theorem neC_high {q : UInt8} (hq : q.toNat < 128) (c : UInt8) (h : 128 ≤ c.toNat) : neC q c = true := by
  unfold neC
  have : c ≠ q := fun e => by subst e; omega
  simp [this]
theorem blC_low (c : UInt8) (h : blC c = true) : c.toNat < 128 := by
  unfold blC at h
  simp at h
  omega
theorem tagC_low (c : UInt8) (h : tagC c = true) : c.toNat < 128 := by
  unfold tagC letC at h
  simp at h
  omega
theorem stopC_low (c : UInt8) (h : stopC c = true) : c.toNat < 128 := by
  unfold stopC blC at h
  simp at h
  omega
theorem attC_of {c : UInt8} (h : goC c = true) : attC (lowB c) = true := by
  have h1 := lowB_toNat c
  unfold goC stopC blC at h
  unfold attC
  simp at h ⊢
  split at h1 <;> omega
theorem namC_of {c : UInt8} (h : tagC c = true) : namC (lowB c) = true := by
  have h1 := lowB_toNat c
  unfold tagC letC at h
  unfold namC smC
  simp at h ⊢
  split at h1 <;> omega
theorem smC_of {c : UInt8} (h : letC c = true) : smC (lowB c) = true := by
  have h1 := lowB_toNat c
  unfold letC at h
  unfold smC
  simp at h ⊢
  split at h1 <;> omega
theorem let_tag {c : UInt8} (h : letC c = true) : tagC c = true := by unfold tagC; rw [h]; rfl

/-! ### attributes -/
theorem valOf_rt {l : List UInt8} {x : List UInt8 × List UInt8} (hl : isB l = true) (h : valOf l = some x) : isB x.1 = true ∧ isB x.2 = true := by
  cases l with
  | nil =>
    have h' : some (([], []) : List UInt8 × List UInt8) = some x := h
    injection h' with h'
    subst h'
    exact ⟨rfl, rfl⟩
  | cons q r =>
    rw [valOf_cons] at h
    split at h
    · rename_i hq
      have hq' : q.toNat < 128 := by rcases hq with rfl | rfl <;> decide
      have hr := rt_tail hl hq'
      split at h
      · injection h with h
        subst h
        exact ⟨(rt_while (neC_high hq') hr).1, rt_drop1 (neC_high hq') hr⟩
      · cases h
    · injection h with h
      subst h
      exact rt_while valC_high hl
theorem behind_rt {l : List UInt8} (hl : isB l = true) : isB (behind l) = true := rt_skip blC_low (rt_while goC_high hl).2
theorem nameAt_ok {c : UInt8} {r : List UInt8} (hl : isB (c :: r) = true) (hc : stopC c = false) : attrB (nameAt (c :: r)) = true := by
  unfold attrB nameAt
  have hg : goC c = true := by simp [goC, hc]
  rw [Bool.and_eq_true, Bool.and_eq_true]
  refine ⟨⟨rt_low (rt_while goC_high hl).1, ?_⟩, ?_⟩
  · rw [List.all_eq_true]
    intro x hx
    obtain ⟨y, hy, rfl⟩ := List.mem_map.1 hx
    exact attC_of (mem_take hy)
  · rw [List.takeWhile_cons, if_pos hg]
    rfl
theorem attOf_ok {c : UInt8} {r : List UInt8} {x : (ByteArray × ByteArray) × List UInt8} (hl : isB (c :: r) = true) (hc : stopC c = false) (h : attOf (c :: r) = some x) :
    attrB x.1.1.data.toList = true ∧ isB x.1.2.data.toList = true ∧ isB x.2 = true := by
  have hn := nameAt_ok hl hc
  have hb := behind_rt hl
  cases hbe : behind (c :: r) with
  | nil =>
    rw [attOf_nil hbe] at h
    injection h with h
    subst h
    exact ⟨by rw [tB_list]; exact hn, by rw [tB_list]; rfl, rfl⟩
  | cons c' r' =>
    rw [hbe] at hb
    by_cases he : c' = 61
    · subst he
      rw [attOf_eq hbe] at h
      cases hv : valOf (r'.dropWhile blC) with
      | none => rw [hv] at h; cases h
      | some y =>
        rw [hv] at h
        injection h with h
        subst h
        have := valOf_rt (rt_skip blC_low (rt_tail hb (by decide))) hv
        exact ⟨by rw [tB_list]; exact hn, by rw [tB_list]; exact rt_dec this.1, this.2⟩
    · rw [attOf_other hbe he] at h
      injection h with h
      subst h
      exact ⟨by rw [tB_list]; exact hn, by rw [tB_list]; rfl, hb⟩
theorem addA_ok {acc : List (ByteArray × ByteArray)} {a : ByteArray × ByteArray} (h : attrsOK acc) (h1 : attrB a.1.data.toList = true) (h2 : isB a.2.data.toList = true) : attrsOK (addA acc a) := by
  unfold addA
  split
  · exact h
  · rename_i hn
    have hno : ∀ x ∈ acc, x.1 ≠ a.1 := fun x hx he => hn (List.any_eq_true.2 ⟨x, hx, by simp [he]⟩)
    refine ⟨fun y hy => ?_, ?_⟩
    · rcases List.mem_append.1 hy with hy | hy
      · exact h.1 y hy
      · simp only [List.mem_singleton] at hy
        subst hy
        exact ⟨h1, h2⟩
    · rw [List.pairwise_append]
      refine ⟨h.2, List.pairwise_singleton _ _, fun x hx y hy => ?_⟩
      simp only [List.mem_singleton] at hy
      subst hy
      exact hno x hx
theorem attsOf_ok : ∀ (n : Nat) (l : List UInt8) (acc : List (ByteArray × ByteArray)) (x : List (ByteArray × ByteArray) × List UInt8), l.length ≤ n → isB l = true → attrsOK acc → attsOf acc l = some x → attrsOK x.1 ∧ isB x.2 = true
  | n, [], acc, x, _, _, _, h => by rw [attsOf_nil] at h; cases h
  | 0, c :: r, acc, x, hn, _, _, h => by simp at hn
  | n + 1, c :: r, acc, x, hn, hl, ha, h => by
    rw [List.length_cons] at hn
    by_cases h1 : c = 62
    · subst h1
      rw [attsOf_end] at h
      injection h with h
      subst h
      exact ⟨ha, rt_tail hl (by decide)⟩
    cases h2 : stopC c with
    | true =>
      rw [attsOf_skip acc r h1 h2] at h
      exact attsOf_ok n r acc x (by omega) (rt_tail hl (stopC_low c h2)) ha h
    | false =>
      cases h3 : attOf (c :: r) with
      | none => rw [attsOf_none acc h2 h3] at h; cases h
      | some y =>
        rw [attsOf_some acc h2 h3] at h
        have h4 := attOf_len h2 h3
        rw [List.length_cons] at h4
        have h5 := attOf_ok hl h2 h3
        exact attsOf_ok n y.2 _ x (by omega) h5.2.2 (addA_ok ha h5.1 h5.2.1) h

/-! ### comments, ends, characters -/
theorem pre_rt3 {a b c : UInt8} {l : List UInt8} (ha : a.toNat < 128) (hb : b.toNat < 128) (hc : c.toNat < 128) (h : isB (a :: b :: c :: l) = true) : isB l = true := rt_tail (rt_tail (rt_tail h ha) hb) hc
theorem upTo3_form : ∀ l : List UInt8, (l = (upTo3 l).1 ∧ (upTo3 l).2 = []) ∨ l = (upTo3 l).1 ++ (45 :: 45 :: 62 :: (upTo3 l).2)
  | [] => .inl ⟨rfl, rfl⟩
  | c :: r => by
    rw [upTo3_cons]
    split
    · rename_i hp
      obtain ⟨t, ht⟩ := pre_form3 hp
      rw [ht]
      exact .inr rfl
    · rcases upTo3_form r with ⟨h1, h2⟩ | h
      · exact .inl ⟨congrArg (c :: ·) h1, h2⟩
      · exact .inr (congrArg (c :: ·) h)
theorem upTo3_rt {l : List UInt8} (h : isB l = true) : isB (upTo3 l).1 = true ∧ isB (upTo3 l).2 = true := by
  rcases upTo3_form l with ⟨h1, h2⟩ | h1
  · rw [← h1, h2]; exact ⟨h, rfl⟩
  · rw [h1] at h
    have := rt_split h (by decide)
    exact ⟨this.1, pre_rt3 (by decide) (by decide) (by decide) this.2.1⟩
theorem upTo3_noEnd : ∀ l : List UInt8, noEnd (upTo3 l).1 = true
  | [] => rfl
  | c :: r => by
    have ih := upTo3_noEnd r
    rw [upTo3_cons]
    split
    · rfl
    · rename_i hp
      show noEnd (c :: (upTo3 r).1) = true
      have hno : Lib.hasPrefix (c :: (upTo3 r).1) [45, 45, 62] = false := by
        cases hq : Lib.hasPrefix (c :: (upTo3 r).1) [45, 45, 62] with
        | false => rfl
        | true =>
          obtain ⟨t, ht⟩ := pre_form3 hq
          exfalso
          apply hp
          injection ht with h1 h2
          subst h1
          rcases upTo3_form r with ⟨h3, _⟩ | h3
          · rw [h3, h2, pre3_iff]; rfl
          · rw [h3, h2]; exact pre3_iff _ _ _ _
      unfold noEnd at ih ⊢
      rw [decide_eq_true_eq] at ih ⊢
      rw [upTo3_cons, if_neg (by rw [hno]; decide), ih]
theorem noEnd_of {l : List UInt8} (h : ∀ c ∈ l, c ≠ 62) : noEnd l = true := by
  unfold noEnd
  rw [decide_eq_true_eq]
  induction l with
  | nil => rfl
  | cons c r ih =>
    rw [upTo3_cons, if_neg, ih fun x hx => h x (by simp [hx])]
    intro hp
    obtain ⟨t, ht⟩ := pre_form3 hp
    exact h 62 (by rw [ht]; simp) rfl
theorem upTo1_ok {l : List UInt8} (h : isB l = true) : isB (upTo1 l).1 = true ∧ isB (upTo1 l).2 = true ∧ noEnd (upTo1 l).1 = true := by
  have hq : (62 : UInt8).toNat < 128 := by decide
  refine ⟨(rt_while (neC_high hq) h).1, rt_drop1 (neC_high hq) h, noEnd_of fun c hc e => ?_⟩
  have := mem_take (p := neC 62) hc
  subst e
  cases this
theorem cutEnd_form (nm : List UInt8) : ∀ l : List UInt8, (cutEnd nm l).2 = [] ∨ endAt nm (cutEnd nm l).2 = true
  | [] => .inl rfl
  | c :: r => by
    rw [cutEnd_cons]
    split
    · rename_i h
      exact .inr h
    · exact cutEnd_form nm r
theorem end_more {nm a : List UInt8} (b : List UInt8) (h : endAt nm a = true) : endAt nm (a ++ b) = true := by
  unfold endAt at h ⊢
  rw [Bool.and_eq_true, decide_eq_true_eq] at h ⊢
  obtain ⟨h1, h2⟩ := h
  cases hd : a.drop (2 + nm.length) with
  | nil => rw [hd] at h2; cases h2
  | cons x t =>
    have hlt : 2 + nm.length < a.length := by
      have := congrArg List.length hd
      rw [List.length_drop, List.length_cons] at this
      omega
    rw [List.take_append_of_le_length (by omega), List.drop_append_of_le_length (by omega), hd]
    rw [hd] at h2
    exact ⟨h1, h2⟩
theorem cutEnd_rawOK (nm : List UInt8) : ∀ l : List UInt8, rawOK nm (cutEnd nm l).1 = true
  | [] => rfl
  | c :: r => by
    have ih := cutEnd_rawOK nm r
    rw [cutEnd_cons]
    split
    · rfl
    · rename_i hp
      show rawOK nm (c :: (cutEnd nm r).1) = true
      have hno : endAt nm (c :: (cutEnd nm r).1) = false := by
        cases hq : endAt nm (c :: (cutEnd nm r).1) with
        | false => rfl
        | true =>
          exfalso
          apply hp
          have := end_more (cutEnd nm r).2 hq
          rwa [List.cons_append, cutEnd_app] at this
      unfold rawOK at ih ⊢
      rw [decide_eq_true_eq] at ih ⊢
      rw [cutEnd_cons, if_neg (by rw [hno]; decide), ih]
theorem low_inv {c d : UInt8} (h : lowB c = d) (hd : ¬ (97 ≤ d.toNat ∧ d.toNat ≤ 122)) : c = d := by
  have h1 := lowB_toNat c
  rw [h] at h1
  split at h1
  · omega
  · exact UInt8.toNat_inj.1 h1.symm
/-- A raw element's end: </, its name in whatever letters, and what ends a name. -/
theorem end_form {nm l : List UInt8} (h : endAt nm l = true) : ∃ nm' d r, l = 60 :: 47 :: (nm' ++ d :: r) ∧ nm'.map lowB = nm ∧ (blC d = true ∨ d = 47 ∨ d = 62) := by
  unfold endAt at h
  rw [Bool.and_eq_true, decide_eq_true_eq] at h
  obtain ⟨h1, h2⟩ := h
  have he := List.take_append_drop (2 + nm.length) l
  cases hd : l.drop (2 + nm.length) with
  | nil => rw [hd] at h2; cases h2
  | cons d r =>
    rw [hd] at h2 he
    obtain ⟨u, hu⟩ : ∃ u, l.take (2 + nm.length) = u := ⟨_, rfl⟩
    rw [hu] at h1 he
    obtain ⟨a, b, u', rfl⟩ : ∃ a b u', u = a :: b :: u' := by
      match u, h1 with
      | [], h1 => simp at h1
      | [x], h1 => simp at h1
      | a :: b :: u', _ => exact ⟨a, b, u', rfl⟩
    · simp only [List.map_cons] at h1
      injection h1 with h3 h1
      injection h1 with h4 h1
      have ha := low_inv h3 (by decide)
      have hb := low_inv h4 (by decide)
      subst ha
      subst hb
      refine ⟨u', d, r, by rw [← he]; rfl, h1, ?_⟩
      rw [Bool.or_eq_true, Bool.or_eq_true, decide_eq_true_eq, decide_eq_true_eq] at h2
      rcases h2 with (h2 | h2) | h2
      · exact .inl h2
      · exact .inr (.inl h2)
      · exact .inr (.inr h2)
theorem cutEnd_rt {nm l : List UInt8} (h : isB l = true) : isB (cutEnd nm l).1 = true ∧ isB (cutEnd nm l).2 = true := by
  have he := cutEnd_app nm l
  rcases cutEnd_form nm l with h1 | h1
  · rw [h1, List.append_nil] at he
    rw [he, h1]
    exact ⟨h, rfl⟩
  · obtain ⟨nm', d, r, hf, _, _⟩ := end_form h1
    rw [← he, hf] at h
    have := rt_split h (by decide)
    rw [hf]
    exact ⟨this.1, this.2.1⟩
theorem charsB_app : ∀ l : List UInt8, (charsB l).1 ++ (charsB l).2 = l ∧ ((charsB l).2 = [] ∨ startsB (charsB l).2 = true)
  | [] => ⟨rfl, .inl rfl⟩
  | c :: r => by
    rw [charsB_cons]
    split
    · rename_i h
      exact ⟨rfl, .inr h⟩
    · have := charsB_app r
      exact ⟨congrArg (c :: ·) this.1, this.2⟩
theorem charsB_rt {l : List UInt8} (h : isB l = true) : isB (charsB l).1 = true ∧ isB (charsB l).2 = true := by
  obtain ⟨he, h1⟩ := charsB_app l
  rcases h1 with h1 | h1
  · rw [h1, List.append_nil] at he
    rw [he, h1]
    exact ⟨h, rfl⟩
  · obtain ⟨c, r, hf, _⟩ := starts_form h1
    rw [← he, hf] at h
    have := rt_split h (by decide)
    rw [hf]
    exact ⟨this.1, this.2.1⟩

end Go.Proofs.Ytfdgmoakobjohaa

/- Part TokT. -/
namespace Go.Proofs.Ytfdgmoakobjohaa
set_option linter.unusedVariables false
set_option linter.unusedSimpArgs false

/-- A token of one of the four kinds, as it should be. -/
def tkOK (k : Tk) : Prop :=
  (k.kind = 1 ∧ namedB k.name.data.toList = true ∧ attrsOK k.attrs ∧ k.text.data.toList = []) ∨
  (k.kind = 2 ∧ namedB k.name.data.toList = true ∧ k.attrs = [] ∧ k.text.data.toList = []) ∨
  (k.kind = 3 ∧ k.name.data.toList = [] ∧ k.attrs = [] ∧ k.text.data.toList ≠ [] ∧ isB k.text.data.toList = true) ∨
  (k.kind = 4 ∧ k.name.data.toList = [] ∧ k.attrs = [] ∧ isB k.text.data.toList = true ∧ noEnd k.text.data.toList = true)
/-- What may stand behind a raw element's beginning: its text, if any, and its end, if any. -/
def rawNext (nm : List UInt8) (l : List Tk) : Prop :=
  l = [] ∨ (∃ l', l = tkE nm :: l') ∨ (∃ t l', l = tkC t :: l' ∧ rawOK nm t = true ∧ (l' = [] ∨ ∃ l'', l' = tkE nm :: l''))
def seqOK : List Tk → Prop
  | [] => True
  | k :: l => tkOK k ∧ (rawTk k = true → rawNext k.name.data.toList l) ∧ seqOK l

theorem ok_begin {nm : List UInt8} {ats : List (ByteArray × ByteArray)} (h : namedB nm = true) (ha : attrsOK ats) : tkOK (tkB nm ats) := .inl ⟨rfl, by show namedB (tB nm).data.toList = true; rw [tB_list]; exact h, ha, tB_list _⟩
theorem ok_end {nm : List UInt8} (h : namedB nm = true) : tkOK (tkE nm) := .inr (.inl ⟨rfl, by show namedB (tB nm).data.toList = true; rw [tB_list]; exact h, rfl, tB_list _⟩)
theorem ok_chars {t : List UInt8} (h : t ≠ []) (hr : isB t = true) : tkOK (tkC t) := .inr (.inr (.inl ⟨rfl, tB_list _, rfl, by show (tB t).data.toList ≠ []; rw [tB_list]; exact h, by show isB (tB t).data.toList = true; rw [tB_list]; exact hr⟩))
theorem ok_remark {t : List UInt8} (h : noEnd t = true) (hr : isB t = true) : tkOK (tkR t) := .inr (.inr (.inr ⟨rfl, tB_list _, rfl, by show isB (tB t).data.toList = true; rw [tB_list]; exact hr, by show noEnd (tB t).data.toList = true; rw [tB_list]; exact h⟩))

theorem name_ok {c : UInt8} {r : List UInt8} (h : letC c = true) : namedB (((c :: r).takeWhile tagC).map lowB) = true := by
  rw [List.takeWhile_cons, if_pos (let_tag h), List.map_cons]
  unfold namedB
  rw [Bool.and_eq_true, smC_of h, List.all_eq_true]
  refine ⟨rfl, fun x hx => ?_⟩
  rcases List.mem_cons.1 hx with rfl | hx
  · exact namC_of (let_tag h)
  · obtain ⟨y, hy, rfl⟩ := List.mem_map.1 hx
    exact namC_of (mem_take hy)
theorem slashB_ok {l : List UInt8} (hl : isB l = true) : isB (slashB l).2 = true ∧ ∀ k, (slashB l).1 = some k → tkOK k := by
  cases l with
  | nil =>
    refine ⟨rfl, fun k hk => ?_⟩
    have hk' : some (tkR []) = some k := hk
    injection hk' with hk'
    subst hk'
    exact ok_remark rfl rfl
  | cons d r =>
    rw [slashB_cons]
    have h1 := upTo1_ok hl
    split
    · rename_i h
      subst h
      exact ⟨rt_tail hl (by decide), fun k hk => by cases hk⟩
    · split
      · rename_i hd
        split
        · refine ⟨h1.2.1, fun k hk => ?_⟩
          injection hk with hk
          subst hk
          exact ok_end (name_ok hd)
        · exact ⟨rfl, fun k hk => by cases hk⟩
      · refine ⟨h1.2.1, fun k hk => ?_⟩
        injection hk with hk
        subst hk
        exact ok_remark h1.2.2 h1.1
theorem tagB_ok {l : List UInt8} (hl : isB l = true) (h : startsB l = true) : isB (tagB l).2 = true ∧ ∀ k, (tagB l).1 = some k → tkOK k := by
  obtain ⟨c, r, rfl, hc⟩ := starts_form h
  have hcr := rt_tail hl (by decide)
  cases hlc : letC c with
  | true =>
    rw [tagB_letter hlc]
    cases ha : attsOf [] ((c :: r).dropWhile tagC) with
    | none => exact ⟨rfl, fun k hk => by cases hk⟩
    | some x =>
      have h1 := attsOf_ok _ _ [] x (Nat.le_refl _) (rt_skip tagC_low hcr) ⟨by simp, List.Pairwise.nil⟩ ha
      refine ⟨h1.2, fun k hk => ?_⟩
      injection hk with hk
      subst hk
      exact ok_begin (name_ok hlc) h1.1
  | false =>
    have hca : c.toNat < 128 := by
      rcases hc with h' | h' | h' | h'
      · rw [hlc] at h'; cases h'
      all_goals subst h'; decide
    have hr := rt_tail hcr hca
    cases hp : Lib.hasPrefix (c :: r) [33, 45, 45] with
    | true =>
      obtain ⟨t, ht⟩ := pre_form3 hp
      injection ht with h1 h2
      subst h1
      subst h2
      rw [tagB_remark]
      have ht := rt_tail (rt_tail hr (by decide)) (by decide)
      have h3 := upTo3_rt ht
      refine ⟨h3.2, fun k hk => ?_⟩
      injection hk with hk
      subst hk
      exact ok_remark (upTo3_noEnd t) h3.1
    | false =>
      by_cases h4 : c = 47
      · subst h4
        rw [tagB_slash]
        exact slashB_ok hr
      · rw [tagB_other hlc hp h4]
        have h1 := upTo1_ok hr
        refine ⟨h1.2.1, fun k hk => ?_⟩
        injection hk with hk
        subst hk
        exact ok_remark h1.2.2 h1.1

theorem let_inv {x : UInt8} (h : smC (lowB x) = true) : letC x = true := by
  have h1 := lowB_toNat x
  unfold smC at h
  unfold letC
  simp at h ⊢
  split at h1 <;> omega
theorem tag_inv {x : UInt8} (h : namC (lowB x) = true) : tagC x = true := by
  have h1 := lowB_toNat x
  unfold namC smC at h
  unfold tagC letC
  simp at h ⊢
  split at h1 <;> omega
theorem tok_end {nm l : List UInt8} (hn : namedB nm = true) (h : endAt nm l = true) : tokB l = [] ∨ ∃ l', tokB l = tkE nm :: l' := by
  obtain ⟨nm', d, r, rfl, hm, hd⟩ := end_form h
  obtain ⟨c, t, hct, hs, hall⟩ := named_form hn
  have hd' : tagC d = false := by
    rcases hd with hd | rfl | rfl
    · cases ht : tagC d with
      | false => rfl
      | true =>
        unfold blC at hd
        unfold tagC letC at ht
        simp at hd ht
        omega
    · decide
    · decide
  have htw := take_stop (p := tagC) (a := nm') (d := d) (X := r) (fun x hx => tag_inv (hall _ (by rw [← hm]; exact List.mem_map_of_mem hx))) hd'
  obtain ⟨x, u, hxu⟩ : ∃ x u, nm' = x :: u := by
    cases nm' with
    | nil => rw [← hm] at hct; cases hct
    | cons x u => exact ⟨x, u, rfl⟩
  have hx : letC x = true := by
    rw [hxu, List.map_cons, hct] at hm
    injection hm with h1 _
    exact let_inv (by rw [h1]; exact hs)
  have hx62 : x ≠ 62 := fun e => by subst e; cases hx
  have hst : startsB (60 :: 47 :: (nm' ++ d :: r)) = true := rfl
  have htg : tagB (60 :: 47 :: (nm' ++ d :: r)) = if 62 ∈ nm' ++ d :: r then (some (tkE nm), (upTo1 (nm' ++ d :: r)).2) else (none, []) := by
    rw [tagB_slash]
    rw [hxu] at htw hm ⊢
    rw [List.cons_append] at htw ⊢
    rw [slashB_cons, if_neg hx62, if_pos hx, htw.1, hm]
  by_cases h62 : 62 ∈ nm' ++ d :: r
  · rw [if_pos h62] at htg
    exact .inr ⟨_, by rw [tokB_tag (k := tkE nm) hst (by rw [htg]) rfl]⟩
  · rw [if_neg h62] at htg
    exact .inl (by rw [tokB_none hst (by rw [htg]), htg, tokB_nil])

theorem tok_seq : ∀ (n : Nat) (l : List UInt8), l.length ≤ n → isB l = true → seqOK (tokB l)
  | n, [], _, _ => by rw [tokB_nil]; trivial
  | 0, c :: r, hn, _ => by simp at hn
  | n + 1, c :: r, hn, hl => by
    cases hst : startsB (c :: r) with
    | false =>
      rw [tokB_chars hst]
      have h1 := charsB_less hst
      have h2 := charsB_rt hl
      refine ⟨ok_chars (dec_ne ?_) (rt_dec h2.1), (fun h => by cases h), tok_seq n _ (by omega) h2.2⟩
      rw [charsB_cons, if_neg (by rw [hst]; decide)]
      simp
    | true =>
      have h1 := tagB_len hst
      have h2 := tagB_ok hl hst
      cases ht : (tagB (c :: r)).1 with
      | none =>
        rw [tokB_none hst ht]
        exact tok_seq n _ (by omega) h2.1
      | some k =>
        have hk := h2.2 k ht
        cases hr : rawTk k with
        | false =>
          rw [tokB_tag hst ht hr]
          exact ⟨hk, (fun h => by rw [hr] at h; cases h), tok_seq n _ (by omega) h2.1⟩
        | true =>
          rw [tokB_raw hst ht hr]
          have hnm : namedB k.name.data.toList = true := by
            unfold rawTk at hr
            rw [Bool.and_eq_true, decide_eq_true_eq] at hr
            rcases hk with h | h | h | h
            · exact h.2.1
            all_goals (have := h.1; omega)
          have hrt := cutEnd_rt (nm := k.name.data.toList) h2.1
          have hlen := cutEnd_len k.name.data.toList (tagB (c :: r)).2
          have hok := cutEnd_rawOK k.name.data.toList (tagB (c :: r)).2
          have hend : tokB (cutEnd k.name.data.toList (tagB (c :: r)).2).2 = [] ∨ ∃ l', tokB (cutEnd k.name.data.toList (tagB (c :: r)).2).2 = tkE k.name.data.toList :: l' := by
            rcases cutEnd_form k.name.data.toList (tagB (c :: r)).2 with h | h
            · rw [h, tokB_nil]; exact .inl rfl
            · exact tok_end hnm h
          have hseq := tok_seq n (cutEnd k.name.data.toList (tagB (c :: r)).2).2 (by omega) hrt.2
          obtain ⟨e1, he1⟩ : ∃ e, (cutEnd k.name.data.toList (tagB (c :: r)).2).1 = e := ⟨_, rfl⟩
          rw [he1] at hrt hok ⊢
          by_cases hne : e1 = []
          · unfold rawBody
            rw [if_pos hne, List.nil_append]
            refine ⟨hk, fun _ => ?_, hseq⟩
            rcases hend with h | h
            · exact .inl h
            · exact .inr (.inl h)
          · unfold rawBody
            rw [if_neg hne]
            refine ⟨hk, fun _ => .inr (.inr ⟨e1, _, rfl, hok, hend⟩), ok_chars hne hrt.1, (fun h => by cases h), hseq⟩

end Go.Proofs.Ytfdgmoakobjohaa

/- Part BldM. -/
namespace Go.Proofs.Ytfdgmoakobjohaa
set_option linter.unusedVariables false
set_option linter.unusedSimpArgs false

/-- An open element: what its beginning told, and what stands in it so far. -/
structure Fr where
  name : ByteArray
  attrs : List (ByteArray × ByteArray)
  kids : List Nd
/-- A builder: the open elements, the innermost first; what stands outside of all. -/
structure Bst where
  fs : List Fr
  out : List Nd
def nodeOf (f : Fr) : Nd := .mk 1 f.name f.attrs (tB []) f.kids
/-- One node more, where nodes go. -/
def addTo : Bst → Nd → Bst
  | ⟨[], out⟩, n => ⟨[], mstep out n⟩
  | ⟨f :: fs, out⟩, n => ⟨⟨f.name, f.attrs, mstep f.kids n⟩ :: fs, out⟩
/-- The innermost element is no more open. -/
def popB : Bst → Bst
  | ⟨[], out⟩ => ⟨[], out⟩
  | ⟨f :: fs, out⟩ => addTo ⟨fs, out⟩ (nodeOf f)
def popN : Nat → Bst → Bst
  | 0, s => s
  | n + 1, s => popN n (popB s)
def textN (t : ByteArray) : Nd := .mk 2 (tB []) [] t []
def remN (t : ByteArray) : Nd := .mk 3 (tB []) [] t []
def shutBy (nm : List UInt8) (f : Fr) : Bool := closesB f.name.data.toList nm
def notNamed (nm : ByteArray) (f : Fr) : Bool := !decide (f.name = nm)
/-- A token is built. -/
def putB (s : Bst) (k : Tk) : Bst :=
  if k.kind = 1 then
    (let s' := popN (s.fs.takeWhile (shutBy k.name.data.toList)).length s
     if voidB k.name.data.toList = true then addTo s' (.mk 1 k.name k.attrs (tB []) []) else ⟨⟨k.name, k.attrs, []⟩ :: s'.fs, s'.out⟩)
  else if k.kind = 2 then (if s.fs.all (notNamed k.name) = true then s else popN ((s.fs.takeWhile (notNamed k.name)).length + 1) s)
  else if k.kind = 3 then addTo s (textN k.text)
  else if k.kind = 4 then addTo s (remN k.text)
  else s
def nodesB (s : Bst) : List Nd := (popN s.fs.length s).out
def treeB (l : List Tk) : List Nd := nodesB (l.foldl putB ⟨[], []⟩)
/-- A text, parsed. -/
def parseB (l : List UInt8) : List Nd := treeB (tokB l)

/-! ### nodes' tags, built -/
def inner : Bst → List Nd
  | ⟨[], out⟩ => out
  | ⟨f :: _, _⟩ => f.kids
def setIn : Bst → List Nd → Bst
  | ⟨[], _⟩, l => ⟨[], l⟩
  | ⟨f :: fs, out⟩, l => ⟨⟨f.name, f.attrs, l⟩ :: fs, out⟩
theorem addTo_eq (s : Bst) (n : Nd) : addTo s n = setIn s (mstep (inner s) n) := by
  obtain ⟨fs, out⟩ := s
  cases fs <;> rfl
theorem setIn_setIn (s : Bst) (a b : List Nd) : setIn (setIn s a) b = setIn s b := by
  obtain ⟨fs, out⟩ := s
  cases fs <;> rfl
theorem inner_setIn (s : Bst) (a : List Nd) : inner (setIn s a) = a := by
  obtain ⟨fs, out⟩ := s
  cases fs <;> rfl
theorem setIn_inner (s : Bst) : setIn s (inner s) = s := by
  obtain ⟨fs, out⟩ := s
  cases fs <;> rfl
/-- Nothing of l closes the innermost element. -/
def openFor (s : Bst) (l : List Nd) : Prop := ∀ f fs, s.fs = f :: fs → ∀ n ∈ l, n.kind = 1 → closesB f.name.data.toList n.name.data.toList = false
theorem openFor_setIn {s : Bst} {l a : List Nd} (h : openFor s l) : openFor (setIn s a) l := by
  obtain ⟨fs, out⟩ := s
  cases fs with
  | nil => intro f fs h'; cases h'
  | cons g gs =>
    intro f fs h' n hn hk
    injection h' with h1 _
    subst h1
    exact h g gs rfl n hn hk

theorem mstep_app {l : List Nd} {n : Nd} (h : n.kind = 2 → n.text.data.toList ≠ [] ∧ lastText l = false) : mstep l n = l ++ [n] := by
  unfold mstep
  by_cases h2 : n.kind = 2
  · obtain ⟨h3, h4⟩ := h h2
    rw [if_neg (fun e => h3 e.2), if_neg (fun e => by rw [h4] at e; cases e.2)]
  · rw [if_neg (fun e => h2 e.1), if_neg (fun e => h2 e.1)]

theorem nd_ext {a b : Nd} (h1 : a.kind = b.kind) (h2 : a.name = b.name) (h3 : a.attrs = b.attrs) (h4 : a.text = b.text) (h5 : a.kids = b.kids) : a = b := by
  cases a
  cases b
  simp only [Nd.kind, Nd.name, Nd.attrs, Nd.text, Nd.kids] at h1 h2 h3 h4 h5
  subst h1 h2 h3 h4 h5
  rfl
theorem text_nil {s : ByteArray} (h : s.data.toList = []) : s = tB [] := tB_eq h

/-- One node's tags. -/
theorem put_node {x : Nd} (hok : nodeOK x) (hst : stN x = true) (hvoid : voidB x.name.data.toList = true → x.kids = [])
    (hkids : ∀ s, openFor s x.kids → (∀ n, x.kids.head? = some n → n.kind = 2 → lastText (inner s) = false) → (tagsL x.kids).foldl putB s = setIn s (inner s ++ x.kids))
    (s : Bst) (ho : openFor s [x]) (hr : x.kind = 2 → x.text.data.toList ≠ [] ∧ lastText (inner s) = false) : (tagsN x).foldl putB s = setIn s (inner s ++ [x]) := by
  have happ := mstep_app hr
  rcases hok with ⟨h1, hn, ht, ha⟩ | ⟨h23, hn, ha, hk, _⟩
  · have hno : s.fs.takeWhile (shutBy x.name.data.toList) = [] := by
      cases hs : s.fs with
      | nil => rfl
      | cons f fs =>
        have := ho f fs hs x (by simp) h1
        rw [List.takeWhile_cons, if_neg (by unfold shutBy; rw [this]; decide)]
    have hkn : (tkB x.name.data.toList x.attrs).name = x.name := tB_of _
    rw [tagsN_eq, if_pos h1]
    cases hv : voidB x.name.data.toList with
    | true =>
      rw [if_pos rfl]
      show putB s (tkB x.name.data.toList x.attrs) = _
      unfold putB
      rw [if_pos (show (tkB x.name.data.toList x.attrs).kind = 1 from rfl), hkn, hno]
      show (if voidB x.name.data.toList = true then addTo s (.mk 1 x.name x.attrs (tB []) []) else _) = _
      rw [if_pos hv, addTo_eq]
      have hx : Nd.mk 1 x.name x.attrs (tB []) [] = x := nd_ext h1.symm rfl rfl (text_nil ht).symm (hvoid hv).symm
      rw [hx, happ]
    | false =>
      rw [if_neg (by decide)]
      have hput : putB s (tkB x.name.data.toList x.attrs) = ⟨⟨x.name, x.attrs, []⟩ :: s.fs, s.out⟩ := by
        unfold putB
        rw [if_pos (show (tkB x.name.data.toList x.attrs).kind = 1 from rfl), hkn, hno]
        show (if voidB x.name.data.toList = true then _ else (⟨⟨x.name, x.attrs, []⟩ :: s.fs, s.out⟩ : Bst)) = _
        rw [if_neg (by rw [hv]; decide)]
      rw [List.foldl_cons, hput, List.foldl_append]
      have hfit : openFor ⟨⟨x.name, x.attrs, []⟩ :: s.fs, s.out⟩ x.kids := by
        intro f fs hf n hnk hk1
        injection hf with hf1 _
        subst hf1
        rw [stN_eq, Bool.and_eq_true, Bool.and_eq_true] at hst
        have := List.all_eq_true.1 hst.1.2 n hnk
        unfold fitsB at this
        rw [hv, if_neg (by decide)] at this
        split at this
        · rw [Bool.and_eq_true, decide_eq_true_eq] at this
          omega
        · rw [Bool.or_eq_true] at this
          rcases this with h | h
          · simp [hk1] at h
          · simpa using h
      rw [hkids _ hfit (fun _ _ _ => rfl)]
      show putB ⟨⟨x.name, x.attrs, [] ++ x.kids⟩ :: s.fs, s.out⟩ (tkE x.name.data.toList) = _
      have hen : (tkE x.name.data.toList).name = x.name := tB_of _
      have hnn : notNamed x.name (⟨x.name, x.attrs, [] ++ x.kids⟩ : Fr) = false := by simp [notNamed]
      unfold putB
      rw [if_neg (show ¬ (tkE x.name.data.toList).kind = 1 by show ¬ (2 : Int) = 1; decide), if_pos (show (tkE x.name.data.toList).kind = 2 from rfl), hen]
      show (if ((⟨x.name, x.attrs, [] ++ x.kids⟩ : Fr) :: s.fs).all (notNamed x.name) = true then _ else popN ((((⟨x.name, x.attrs, [] ++ x.kids⟩ : Fr) :: s.fs).takeWhile (notNamed x.name)).length + 1) _) = _
      rw [if_neg (by rw [List.all_cons, hnn, Bool.false_and]; decide), List.takeWhile_cons, if_neg (by rw [hnn]; decide)]
      show addTo ⟨s.fs, s.out⟩ (nodeOf ⟨x.name, x.attrs, [] ++ x.kids⟩) = _
      have hx : nodeOf ⟨x.name, x.attrs, [] ++ x.kids⟩ = x := nd_ext h1.symm rfl rfl (text_nil ht).symm rfl
      rw [hx, addTo_eq, happ]
  · have hnm := text_nil hn
    rcases h23 with h2 | h3
    · rw [tagsN_eq, if_neg (by omega), if_pos h2]
      have hx : textN (tB x.text.data.toList) = x := nd_ext h2.symm hnm.symm ha.symm (tB_of _) hk.symm
      show addTo s (textN (tB x.text.data.toList)) = _
      rw [hx, addTo_eq, happ]
    · rw [tagsN_eq, if_neg (by omega), if_neg (by omega), if_pos h3]
      have hx : remN (tB x.text.data.toList) = x := nd_ext h3.symm hnm.symm ha.symm (tB_of _) hk.symm
      show addTo s (remN (tB x.text.data.toList)) = _
      rw [hx, addTo_eq, happ]

theorem void_kids {x : Nd} (hst : stN x = true) (hv : voidB x.name.data.toList = true) : x.kids = [] := by
  rw [stN_eq, Bool.and_eq_true, Bool.and_eq_true] at hst
  cases hk : x.kids with
  | nil => rfl
  | cons n l =>
    have := List.all_eq_true.1 hst.1.2 n (by rw [hk]; simp)
    unfold fitsB at this
    rw [if_pos hv] at this
    cases this

theorem put_tags : ∀ l : List Nd, GoodL l → stL l = true → ∀ s, openFor s l → (∀ n, l.head? = some n → n.kind = 2 → lastText (inner s) = false) → (tagsL l).foldl putB s = setIn s (inner s ++ l) := by
  intro l
  induction l using nd_ind with
  | h l ih =>
    intro hg hst
    have key : ∀ m : List Nd, (∀ x ∈ m, nodeOK x) → (∀ x ∈ m, stN x = true) →
        (∀ x ∈ m, ∀ s, openFor s x.kids → (∀ n, x.kids.head? = some n → n.kind = 2 → lastText (inner s) = false) → (tagsL x.kids).foldl putB s = setIn s (inner s ++ x.kids)) →
        ∀ b, sides b m → ∀ s, openFor s m → (∀ n, m.head? = some n → n.kind = 2 → lastText (inner s) = false) → (tagsL m).foldl putB s = setIn s (inner s ++ m) := by
      intro m
      induction m with
      | nil => intro _ _ _ b _ s _ _; rw [tagsL_nil, List.append_nil, setIn_inner]; rfl
      | cons x m ihm =>
        intro h1 h2 h3 b hs s ho hh
        rw [tagsL_cons, List.foldl_append, put_node (h1 x (by simp)) (h2 x (by simp)) (void_kids (h2 x (by simp))) (h3 x (by simp)) s (fun f fs hf n hn => ho f fs hf n (by simp only [List.mem_singleton] at hn; subst hn; simp)) (fun hk => ⟨(hs.1 hk).1, hh x rfl hk⟩)]
        rw [ihm (fun y hy => h1 y (by simp [hy])) (fun y hy => h2 y (by simp [hy])) (fun y hy => h3 y (by simp [hy])) _ hs.2 _ ?_ ?_, setIn_setIn, inner_setIn, List.append_assoc]
        · rfl
        · refine openFor_setIn fun f fs hf n hn => ho f fs hf n (by simp [hn])
        · intro n hn hk
          rw [inner_setIn, lastText_snoc]
          cases m with
          | nil => cases hn
          | cons y m =>
            injection hn with hn
            subst hn
            exact (hs.2.1 hk).2
    rw [stL_all, List.all_eq_true] at hst
    refine key l hg.nodes (fun x hx => hst x hx) (fun x hx => ?_) false hg.sides_
    obtain ⟨i, hi, he⟩ := List.mem_iff_getElem.1 hx
    have hsx := hst x hx
    rw [stN_eq, Bool.and_eq_true] at hsx
    exact ih i x (by rw [List.getElem?_eq_getElem hi, he]) (hg.kids x hx) hsx.2

/-- Stable nodes' tags are built as the nodes. -/
theorem tree_tags {l : List Nd} (hg : GoodL l) (hst : stL l = true) : treeB (tagsL l) = l := by
  unfold treeB
  rw [put_tags l hg hst ⟨[], []⟩ (fun f fs h => by cases h) (fun _ _ _ => rfl)]
  rfl
/-- Stable nodes, written and parsed, are as they were. -/
theorem parse_write {l : List Nd} (hg : GoodL l) (hst : stL l = true) : parseB (txtL false l) = l := by
  unfold parseB
  have := tok_write l hg hst [] (.inl rfl)
  rw [List.append_nil, tokB_nil, List.append_nil] at this
  rw [this, tree_tags hg hst]

/-! ### whatever is built -/
/-- A builder's open elements are as they should be. -/
def frOK (f : Fr) : Prop := namedB f.name.data.toList = true ∧ attrsOK f.attrs ∧ voidB f.name.data.toList = false ∧ GoodL f.kids ∧ stL f.kids = true ∧ f.kids.all (fitsB f.name.data.toList) = true
def chainOK : List Fr → Prop
  | [] => True
  | [_] => True
  | f :: g :: fs => rawB g.name.data.toList = false ∧ closesB g.name.data.toList f.name.data.toList = false ∧ chainOK (g :: fs)
structure BOK (s : Bst) : Prop where
  fr : ∀ f ∈ s.fs, frOK f
  ch : chainOK s.fs
  out : GoodL s.out
  st : stL s.out = true
/-- What may come, if the innermost element is raw. -/
def rawCome (s : Bst) (l : List Tk) : Prop := ∀ f fs, s.fs = f :: fs → rawB f.name.data.toList = true →
  (f.kids = [] ∧ rawNext f.name.data.toList l) ∨ (∃ t, f.kids = [textN t] ∧ (l = [] ∨ ∃ l', l = tkE f.name.data.toList :: l'))

theorem node_ok {f : Fr} (h : frOK f) : nodeOK (nodeOf f) ∧ GoodL (nodeOf f).kids ∧ stN (nodeOf f) = true := by
  refine ⟨.inl ⟨rfl, h.1, tB_list _, h.2.1⟩, h.2.2.2.1, ?_⟩
  rw [stN_eq]
  show ((!decide ((1 : Int) = 3) || _) && f.kids.all (fitsB f.name.data.toList) && stL f.kids) = true
  rw [h.2.2.2.2.1, h.2.2.2.2.2]
  rfl
theorem stN_glue {x : Nd} {t : ByteArray} (h2 : x.kind = 2) (h : stN x = true) : stN (.mk x.kind x.name x.attrs (x.text ++ t) x.kids) = true := by
  rw [stN_eq] at h ⊢
  show ((!decide (x.kind = 3) || _) && x.kids.all (fitsB x.name.data.toList) && stL x.kids) = true
  rw [h2] at h ⊢
  simpa using h
theorem mstep_st {l : List Nd} {n : Nd} (h : stL l = true) (hn : stN n = true) : stL (mstep l n) = true := by
  unfold mstep
  split
  · exact h
  · split
    · rename_i h2
      have hne : 0 < l.length := by
        rcases Nat.eq_zero_or_pos l.length with h0 | h0
        · have := List.eq_nil_of_length_eq_zero h0
          subst this
          cases h2.2
        · exact h0
      obtain ⟨m, x, rfl⟩ := snoc_of hne
      rw [lastText_snoc] at h2
      rw [mglue_snoc, stL_append]
      rw [stL_append, stL_cons, stL_nil, Bool.and_true, Bool.and_eq_true] at h
      rw [stL_cons, stL_nil, Bool.and_true, h.1, Bool.true_and]
      exact stN_glue (by simpa using h2.2) h.2
    · rw [stL_append, h, stL_cons, stL_nil, hn]
      rfl
theorem mstep_fits {p : List UInt8} {l : List Nd} {n : Nd} (hr : rawB p = false) (h : l.all (fitsB p) = true) (hn : fitsB p n = true) : (mstep l n).all (fitsB p) = true := by
  unfold mstep
  split
  · exact h
  · split
    · rename_i h2
      have hne : 0 < l.length := by
        rcases Nat.eq_zero_or_pos l.length with h0 | h0
        · have := List.eq_nil_of_length_eq_zero h0
          subst this
          cases h2.2
        · exact h0
      obtain ⟨m, x, rfl⟩ := snoc_of hne
      rw [lastText_snoc] at h2
      rw [mglue_snoc, List.all_append]
      rw [List.all_append, Bool.and_eq_true] at h
      rw [h.1]
      have hx : fitsB p x = true := by simpa using h.2
      have hx2 : x.kind = 2 := by simpa using h2.2
      have : fitsB p (.mk x.kind x.name x.attrs (x.text ++ n.text) x.kids) = true := by
        unfold fitsB at hx ⊢
        rw [hr] at hx ⊢
        split at hx
        · cases hx
        · rename_i hv
          rw [if_neg hv, if_neg (by decide)]
          show (!decide (x.kind = 1) || _) = true
          rw [hx2]
          rfl
      simp [this]
    · rw [List.all_append, h]
      simp [hn]
theorem addTo_ok {s : Bst} {n : Nd} (h : BOK s) (hn : nodeOK n) (hk : GoodL n.kids) (hst : stN n = true) (hf : ∀ f fs, s.fs = f :: fs → rawB f.name.data.toList = false ∧ fitsB f.name.data.toList n = true) : BOK (addTo s n) := by
  obtain ⟨fs, out⟩ := s
  cases fs with
  | nil => exact ⟨(fun f hf => by cases hf), trivial, mstep_good h.out hn hk, mstep_st h.st hst⟩
  | cons f fs =>
    have h0 := h.fr f (by simp)
    have h1 := hf f fs rfl
    refine ⟨fun g hg => ?_, ?_, h.out, h.st⟩
    · rcases List.mem_cons.1 hg with rfl | hg
      · exact ⟨h0.1, h0.2.1, h0.2.2.1, mstep_good h0.2.2.2.1 hn hk, mstep_st h0.2.2.2.2.1 hst, mstep_fits h1.1 h0.2.2.2.2.2 h1.2⟩
      · exact h.fr g (List.mem_cons_of_mem _ hg)
    · have := h.ch
      cases fs with
      | nil => trivial
      | cons g gs => exact ⟨this.1, this.2.1, this.2.2⟩
theorem addTo_names (s : Bst) (n : Nd) : (addTo s n).fs.map Fr.name = s.fs.map Fr.name := by
  obtain ⟨fs, out⟩ := s
  cases fs <;> rfl
/-- The innermost element closed. -/
theorem pop_ok {s : Bst} (h : BOK s) : BOK (popB s) := by
  obtain ⟨fs, out⟩ := s
  cases fs with
  | nil => exact h
  | cons f fs =>
    have h0 := h.fr f (by simp)
    obtain ⟨a, b, c⟩ := node_ok h0
    refine addTo_ok ⟨fun g hg => h.fr g (List.mem_cons_of_mem _ hg), ?_, h.out, h.st⟩ a b c fun g gs hg => ?_
    · have := h.ch
      cases fs with
      | nil => trivial
      | cons g gs => exact this.2.2
    · have hch := h.ch
      have hfs : fs = g :: gs := hg
      subst hfs
      have hg0 := h.fr g (by simp)
      refine ⟨hch.1, ?_⟩
      unfold fitsB
      rw [hg0.2.2.1, if_neg (by decide), hch.1, if_neg (by decide)]
      show (!decide ((1 : Int) = 1) || !closesB g.name.data.toList f.name.data.toList) = true
      rw [hch.2.1]
      rfl
theorem popN_ok : ∀ (n : Nat) {s : Bst}, BOK s → BOK (popN n s)
  | 0, s, h => h
  | n + 1, s, h => popN_ok n (pop_ok h)
theorem pop_names (s : Bst) : (popB s).fs.map Fr.name = (s.fs.map Fr.name).drop 1 := by
  obtain ⟨fs, out⟩ := s
  cases fs with
  | nil => rfl
  | cons f fs => exact addTo_names _ _
theorem popN_names : ∀ (n : Nat) (s : Bst), (popN n s).fs.map Fr.name = (s.fs.map Fr.name).drop n
  | 0, s => by rw [List.drop_zero]; rfl
  | n + 1, s => by
    show (popN n (popB s)).fs.map Fr.name = _
    rw [popN_names n, pop_names, List.drop_drop, Nat.add_comm]
/-- Behind a pop the innermost element is not raw. -/
theorem chain_names : ∀ {fs gs : List Fr}, fs.map Fr.name = gs.map Fr.name → chainOK fs → chainOK gs
  | [], [], _, _ => trivial
  | [], _ :: _, h, _ => by cases h
  | _ :: _, [], h, _ => by cases h
  | [_], [_], _, _ => trivial
  | [_], _ :: _ :: _, h, _ => by simp at h
  | _ :: _ :: _, [_], h, _ => by simp at h
  | f :: f' :: fs, g :: g' :: gs, h, hc => by
    simp only [List.map_cons] at h
    injection h with h1 h
    have h' := h
    injection h with h2 h
    exact ⟨by rw [← h2]; exact hc.1, by rw [← h2, ← h1]; exact hc.2.1, chain_names (fs := f' :: fs) (gs := g' :: gs) h' hc.2.2⟩
theorem chain_drop : ∀ (n : Nat) {fs : List Fr}, chainOK fs → 0 < n → ∀ f gs, fs.drop n = f :: gs → rawB f.name.data.toList = false
  | 0, _, _, h, _, _, _ => by omega
  | n + 1, [], _, _, f, gs, h => by cases h
  | n + 1, [x], _, _, f, gs, h => by
    rw [List.drop_succ_cons] at h
    cases n <;> cases h
  | 1, x :: y :: fs, hc, _, f, gs, h => by
    injection h with h1 _
    subst h1
    exact hc.1
  | n + 2, x :: y :: fs, hc, _, f, gs, h => chain_drop (n + 1) hc.2.2 (by omega) f gs (by rw [List.drop_succ_cons] at h; exact h)
theorem names_head {fs : List Fr} {gs : List Fr} {f : Fr} {fs' : List Fr} (h : fs.map Fr.name = gs.map Fr.name) (hf : fs = f :: fs') : ∃ g gs', gs = g :: gs' ∧ g.name = f.name := by
  subst hf
  cases gs with
  | nil => cases h
  | cons g gs' =>
    injection h with h1 _
    exact ⟨g, gs', rfl, h1.symm⟩
theorem pop_noraw {n : Nat} {s : Bst} (h : BOK s) (hn : 0 < n) : ∀ f fs, (popN n s).fs = f :: fs → rawB f.name.data.toList = false := by
  intro f fs hf
  have hnm := popN_names n s
  rw [← List.map_drop] at hnm
  obtain ⟨g, gs, hg, he⟩ := names_head hnm hf
  rw [← he]
  exact chain_drop n h.ch hn g gs hg

theorem fits_remark {p : List UInt8} (hv : voidB p = false) (hr : rawB p = false) (n : Nd) (h : n.kind ≠ 1) : fitsB p n = true := by
  unfold fitsB
  rw [hv, if_neg (by decide), hr, if_neg (by decide)]
  simp [h]
theorem rawCome_of {s : Bst} {l : List Tk} (h : ∀ f fs, s.fs = f :: fs → rawB f.name.data.toList = false) : rawCome s l := fun f fs hf hr => by rw [h f fs hf] at hr; cases hr
/-- Where the next token is neither an end nor characters, the innermost element is not raw. -/
theorem come_noraw {s : Bst} {k : Tk} {l : List Tk} (h : rawCome s (k :: l)) (h2 : k.kind ≠ 2) (h3 : k.kind ≠ 3) : ∀ f fs, s.fs = f :: fs → rawB f.name.data.toList = false := by
  intro f fs hf
  cases hr : rawB f.name.data.toList with
  | false => rfl
  | true =>
    exfalso
    rcases h f fs hf hr with ⟨_, hn⟩ | ⟨t, _, hn⟩
    · rcases hn with hn | ⟨l', hn⟩ | ⟨t, l', hn, _⟩
      · cases hn
      · injection hn with hn _; subst hn; exact h2 rfl
      · injection hn with hn _; subst hn; exact h3 rfl
    · rcases hn with hn | ⟨l', hn⟩
      · cases hn
      · injection hn with hn _; subst hn; exact h2 rfl
theorem tw_stop {p : Fr → Bool} : ∀ {fs : List Fr} {f : Fr} {gs : List Fr}, fs.drop (fs.takeWhile p).length = f :: gs → p f = false
  | [], f, gs, h => by cases h
  | x :: fs, f, gs, h => by
    rw [List.takeWhile_cons] at h
    split at h
    · rw [List.length_cons, List.drop_succ_cons] at h
      exact tw_stop h
    · rename_i hx
      injection h with h1 _
      subst h1
      simpa using hx

theorem put_ok {s : Bst} {k : Tk} {l : List Tk} (h : BOK s) (hc : rawCome s (k :: l)) (hs : seqOK (k :: l)) : BOK (putB s k) ∧ rawCome (putB s k) l := by
  obtain ⟨hk, hraw, hsl⟩ := hs
  rcases hk with ⟨h1, hn, ha, ht⟩ | ⟨h2, hn, ha, ht⟩ | ⟨h3, hn, ha, htn, ht⟩ | ⟨h4, hn, ha, ht, hno⟩
  · -- a beginning
    have hnr := come_noraw hc (by omega) (by omega)
    obtain ⟨c, hcnt⟩ : ∃ c, (s.fs.takeWhile (shutBy k.name.data.toList)).length = c := ⟨_, rfl⟩
    have hpo := popN_ok c h
    have hnr' : ∀ f fs, (popN c s).fs = f :: fs → rawB f.name.data.toList = false := by
      rcases Nat.eq_zero_or_pos c with h0 | h0
      · subst h0; exact hnr
      · exact pop_noraw h h0
    have hcl : ∀ f fs, (popN c s).fs = f :: fs → closesB f.name.data.toList k.name.data.toList = false := by
      intro f fs hf
      have hnm := popN_names c s
      rw [← List.map_drop] at hnm
      obtain ⟨g, gs, hg, he⟩ := names_head hnm hf
      rw [← hcnt] at hg
      have := tw_stop hg
      unfold shutBy at this
      rw [← he]
      exact this
    have hput : putB s k = if voidB k.name.data.toList = true then addTo (popN c s) (.mk 1 k.name k.attrs (tB []) []) else ⟨⟨k.name, k.attrs, []⟩ :: (popN c s).fs, (popN c s).out⟩ := by
      unfold putB
      rw [if_pos h1, hcnt]
    rw [hput]
    cases hv : voidB k.name.data.toList with
    | true =>
      rw [if_pos rfl]
      have hN : stN (.mk 1 k.name k.attrs (tB []) []) = true := by rw [stN_eq]; rfl
      refine ⟨addTo_ok hpo (.inl ⟨rfl, hn, tB_list _, ha⟩) GoodL.nil hN fun f fs hf => ⟨hnr' f fs hf, ?_⟩, rawCome_of fun f fs hf => ?_⟩
      · unfold fitsB
        rw [(hpo.fr f (by rw [hf]; simp)).2.2.1, if_neg (by decide), hnr' f fs hf, if_neg (by decide)]
        show (!decide ((1 : Int) = 1) || !closesB f.name.data.toList k.name.data.toList) = true
        rw [hcl f fs hf]
        rfl
      · obtain ⟨g, gs, hg, he⟩ := names_head (addTo_names _ _) hf
        rw [← he]
        exact hnr' g gs hg
    | false =>
      rw [if_neg (by decide)]
      refine ⟨⟨fun f hf => ?_, ?_, hpo.out, hpo.st⟩, fun f fs hf hr => ?_⟩
      · rcases List.mem_cons.1 hf with rfl | hf
        · exact ⟨hn, ha, hv, GoodL.nil, stL_nil, rfl⟩
        · exact hpo.fr f hf
      · show chainOK (⟨k.name, k.attrs, []⟩ :: (popN c s).fs)
        cases hfs : (popN c s).fs with
        | nil => trivial
        | cons g gs =>
          refine ⟨hnr' g gs hfs, hcl g gs hfs, ?_⟩
          rw [← hfs]
          exact hpo.ch
      · injection hf with hf _
        subst hf
        exact .inl ⟨rfl, hraw (by unfold rawTk; rw [h1]; simpa using hr)⟩
  · -- an end
    have hput : putB s k = if s.fs.all (notNamed k.name) = true then s else popN ((s.fs.takeWhile (notNamed k.name)).length + 1) s := by
      unfold putB
      rw [if_neg (by omega), if_pos h2]
    rw [hput]
    split
    · rename_i hall
      refine ⟨h, rawCome_of fun f fs hf => ?_⟩
      cases hr : rawB f.name.data.toList with
      | false => rfl
      | true =>
        exfalso
        have hnk : notNamed k.name f = true := List.all_eq_true.1 hall f (by rw [hf]; simp)
        have key : ∀ l', (k :: l) = tkE f.name.data.toList :: l' → False := by
          intro l' he
          injection he with he _
          have : k.name = f.name := by rw [he]; exact tB_of _
          simp [notNamed, this] at hnk
        rcases hc f fs hf hr with ⟨_, hn'⟩ | ⟨t, _, hn'⟩
        · rcases hn' with hn' | ⟨l', hn'⟩ | ⟨t, l', hn', _⟩
          · cases hn'
          · exact key l' hn'
          · injection hn' with hn' _
            rw [hn'] at h2
            cases h2
        · rcases hn' with hn' | ⟨l', hn'⟩
          · cases hn'
          · exact key l' hn'
    · exact ⟨popN_ok _ h, rawCome_of (pop_noraw h (by omega))⟩
  · -- characters
    have hput : putB s k = addTo s (textN k.text) := by
      unfold putB
      rw [if_neg (by omega), if_neg (by omega), if_pos h3]
    rw [hput]
    have hN : nodeOK (textN k.text) := .inr ⟨.inl rfl, tB_list _, rfl, rfl, ht⟩
    have hS : stN (textN k.text) = true := by rw [stN_eq]; rfl
    obtain ⟨fs, out⟩ := s
    cases fs with
    | nil => exact ⟨addTo_ok h hN GoodL.nil hS (fun f fs hf => by cases hf), fun f fs hf => by cases hf⟩
    | cons f fs =>
      have hf0 := h.fr f (by simp)
      cases hr : rawB f.name.data.toList with
      | false =>
        refine ⟨addTo_ok h hN GoodL.nil hS fun g gs hg => ?_, rawCome_of fun g gs hg => ?_⟩
        · injection hg with hg _
          subst hg
          exact ⟨hr, fits_remark hf0.2.2.1 hr _ (by show (2 : Int) ≠ 1; decide)⟩
        · injection hg with hg _
          rw [← hg]
          exact hr
      | true =>
        rcases hc f fs rfl hr with ⟨hke, hn'⟩ | ⟨t, _, hn'⟩
        · rcases hn' with hn' | ⟨l', hn'⟩ | ⟨t, l', hn', hok, hl'⟩
          · cases hn'
          · injection hn' with hn' _
            rw [hn'] at h3
            cases h3
          · injection hn' with hkt hll
            subst hll
            have htx : k.text = tB t := by rw [hkt]; rfl
            have htl : k.text.data.toList = t := by rw [htx, tB_list]
            have hms : mstep f.kids (textN k.text) = [textN k.text] := by
              rw [hke, mstep_app (n := textN k.text) (fun _ => ⟨htn, rfl⟩)]
              rfl
            have hadd : addTo ⟨f :: fs, out⟩ (textN k.text) = ⟨⟨f.name, f.attrs, [textN k.text]⟩ :: fs, out⟩ := by
              show (⟨⟨f.name, f.attrs, mstep f.kids (textN k.text)⟩ :: fs, out⟩ : Bst) = _
              rw [hms]
            rw [hadd]
            have hgood : GoodL [textN k.text] := by
              have := mstep_good GoodL.nil hN GoodL.nil
              rwa [mstep_app (n := textN k.text) (fun _ => ⟨htn, rfl⟩)] at this
            refine ⟨⟨fun g hg => ?_, ?_, h.out, h.st⟩, fun g gs hg hgr => ?_⟩
            · rcases List.mem_cons.1 hg with rfl | hg
              · refine ⟨hf0.1, hf0.2.1, hf0.2.2.1, hgood, by rw [stL_cons, stL_nil, hS]; rfl, ?_⟩
                show ([textN k.text].all (fitsB f.name.data.toList)) = true
                have : fitsB f.name.data.toList (textN k.text) = true := by
                  unfold fitsB
                  rw [hf0.2.2.1, if_neg (by decide), hr, if_pos rfl]
                  show (decide ((2 : Int) = 2) && rawOK f.name.data.toList k.text.data.toList) = true
                  rw [htl, hok]
                  rfl
                simp [this]
              · exact h.fr g (List.mem_cons_of_mem _ hg)
            · have := h.ch
              cases fs with
              | nil => trivial
              | cons x xs => exact ⟨this.1, this.2.1, this.2.2⟩
            · injection hg with hg _
              subst hg
              exact .inr ⟨k.text, rfl, hl'⟩
        · exfalso
          rcases hn' with hn' | ⟨l', hn'⟩
          · cases hn'
          · injection hn' with hn' _
            rw [hn'] at h3
            cases h3
  · -- a comment
    have hnr := come_noraw hc (by omega) (by omega)
    have hput : putB s k = addTo s (remN k.text) := by
      unfold putB
      rw [if_neg (by omega), if_neg (by omega), if_neg (by omega), if_pos h4]
    rw [hput]
    have hN : nodeOK (remN k.text) := .inr ⟨.inr rfl, tB_list _, rfl, rfl, ht⟩
    have hS : stN (remN k.text) = true := by
      rw [stN_eq]
      show ((!decide ((3 : Int) = 3) || noEnd k.text.data.toList) && true && stL []) = true
      rw [hno, stL_nil]
      rfl
    refine ⟨addTo_ok h hN GoodL.nil hS fun f fs hf => ⟨hnr f fs hf, fits_remark (h.fr f (by rw [hf]; simp)).2.2.1 (hnr f fs hf) _ (by show (3 : Int) ≠ 1; decide)⟩, rawCome_of fun f fs hf => ?_⟩
    obtain ⟨g, gs, hg, he⟩ := names_head (addTo_names _ _) hf
    rw [← he]
    exact hnr g gs hg

theorem puts_ok : ∀ (l : List Tk) (s : Bst), BOK s → rawCome s l → seqOK l → BOK (l.foldl putB s)
  | [], s, h, _, _ => h
  | k :: l, s, h, hc, hs => by
    have h1 := put_ok h hc hs
    exact puts_ok l _ h1.1 h1.2 hs.2.2
/-- Whatever tokens of a right text are built as may be, and is stable. -/
theorem tree_ok {l : List Tk} (h : seqOK l) : GoodL (treeB l) ∧ stL (treeB l) = true := by
  have h0 := puts_ok l ⟨[], []⟩ ⟨(fun f hf => by cases hf), trivial, GoodL.nil, stL_nil⟩ (fun f fs hf => by cases hf) h
  have := popN_ok (l.foldl putB ⟨[], []⟩).fs.length h0
  exact ⟨this.out, this.st⟩
theorem parse_ok {l : List UInt8} (h : isB l = true) : GoodL (parseB l) ∧ stL (parseB l) = true := tree_ok (tok_seq _ _ (Nat.le_refl _) h)

end Go.Proofs.Ytfdgmoakobjohaa
