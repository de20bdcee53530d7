/- Parts of the proof, in build order: BdQ BdR One RunesR BytesR TextR RightR NamR. -/
import Derived.Test.YtfdgmoakobjohaaK07
import Derived.Test.YtfdgmoakobjohaaK06
import Derived.Test.YtfdgmoakobjohaaK01
import Derived.Test.YtfdgmoakobjohaaK02

/- Part BdQ. -/
namespace Go.Proofs.Ytfdgmoakobjohaa
open Go.RowKit
set_option linter.unusedVariables false

/-- The builder at block a is b; it has changed its counts, and has open elements, no more than N times; blocks of K are none of what it has. -/
def IsAtK (lo a : Nat) (b : Bst) (N : Nat) (K : Nat → Prop) (w : World) : Prop :=
  ∃ P Q s, s.a = a ∧ s.bst [] = b ∧ s.n + s.fs.length ≤ N ∧ (s.tl = none → lastText (inner b) = false) ∧ StAt lo P Q s [] w ∧ ∀ k, K k → ¬ P k ∧ ¬ Q k ∧ ¬ s.X k
def noB : Nat → Prop := fun _ => False
def IsAtB (lo a : Nat) (b : Bst) (N : Nat) (w : World) : Prop := IsAtK lo a b N noB w
theorem IsAtK.forget {lo a : Nat} {b : Bst} {N : Nat} {K : Nat → Prop} {w : World} (h : IsAtK lo a b N K w) : IsAtB lo a b N w := by
  obtain ⟨P, Q, s, h1, h2, h3, h4, h5, h6⟩ := h
  exact ⟨P, Q, s, h1, h2, h3, h4, h5, fun k hk => hk.elim⟩
theorem IsAtK.less {lo a : Nat} {b : Bst} {N M : Nat} {K : Nat → Prop} {w : World} (h : IsAtK lo a b N K w) (hN : N ≤ M) : IsAtK lo a b M K w := by
  obtain ⟨P, Q, s, h1, h2, h3, h4, h5, h6⟩ := h
  exact ⟨P, Q, s, h1, h2, by omega, h4, h5, h6⟩
/-- What was made between w0 and w. -/
def newB (w0 w : World) (k : Nat) : Prop := w0.heap.size ≤ k ∧ k < w.heap.size
theorem IsAtK.more {lo a : Nat} {b : Bst} {N : Nat} {K : Nat → Prop} {w w' : World} (h : IsAtK lo a b N K w) (hb : Below w.heap.size w w') : IsAtK lo a b N (fun k => K k ∨ newB w w' k) w' := by
  obtain ⟨P, Q, s, h1, h2, h3, h4, h5, h6⟩ := h
  refine ⟨P, Q, s, h1, h2, h3, h4, h5.below hb, fun k hk => ?_⟩
  rcases hk with hk | hk
  · exact h6 k hk
  · have hlo := fun h => (h5.lo k h).2
    refine ⟨fun h => ?_, fun h => ?_, fun h => ?_⟩
    · have := hlo (.inl h); have := hk.1; omega
    · have := hlo (.inr (.inl h)); have := hk.1; omega
    · have := hlo (.inr (.inr h)); have := hk.1; omega
theorem IsAtK.keep {lo a : Nat} {b : Bst} {N : Nat} {K : Nat → Prop} {w w' : World} (h : IsAtK lo a b N K w) (hb : Below w.heap.size w w') : IsAtK lo a b N K w' := by
  obtain ⟨P, Q, s, h1, h2, h3, h4, h5, h6⟩ := h
  exact ⟨P, Q, s, h1, h2, h3, h4, h5.below hb, h6⟩

/-! ### sizes -/
theorem szFs_len : ∀ l : List Fr, 10 * l.length ≤ szFs l
  | [] => Nat.le_refl _
  | f :: l => by
    have := szFs_len l
    simp only [szFs, szF, List.length_cons]
    omega
theorem bst_fs_len (s : Stt) (x : List Nd) : (s.bst x).fs.length = s.fs.length := bst_len _ _ _
theorem inner_top (s : Stt) (x : List Nd) : inner (s.bst x) = s.topR.map Rp.n ++ (s.tn ++ x) := by
  unfold Stt.bst Stt.topR
  rw [bst_inner]
  cases s.fs <;> rfl
theorem inner_sz (b : Bst) : szL (inner b) ≤ szB b := by
  obtain ⟨fs, out⟩ := b
  cases fs with
  | nil => show szL out ≤ szFs [] + szL out; omega
  | cons f fs => show szL f.kids ≤ szFs (f :: fs) + szL out; simp only [szFs, szF]; omega
theorem fs_small {s : Stt} {x : List Nd} {k : Nat} (h : szB (s.bst x) ≤ k) : s.fs.length ≤ k := by
  have h1 := szFs_len (s.bst x).fs
  rw [bst_fs_len] at h1
  have : szFs (s.bst x).fs ≤ szB (s.bst x) := Nat.le_add_right _ _
  omega
theorem row_small {s : Stt} {k : Nat} (h : szB (s.bst []) ≤ k) : (s.topR.map Rp.g ++ (s.tg ++ [])).length ≤ k := by
  have h1 := inner_sz (s.bst [])
  have h2 := szL_len (inner (s.bst []))
  rw [inner_top] at h1 h2
  have h3 : (s.topR.map Rp.g ++ (s.tg ++ [])).length = (s.topR.map Rp.n ++ (s.tn ++ [])).length := by
    unfold Stt.tg Stt.tn
    cases s.tl <;> simp
  omega
theorem name_small {f : Fm} {fs : List Fm} {x out : List Nd} {k : Nat} (h : szB (bstOf (f :: fs) x out) ≤ k) : f.name.size ≤ k := by
  have : szF (frOf f x) ≤ szB (bstOf (f :: fs) x out) := by
    show szF (frOf f x) ≤ szF (frOf f x) + szFs (frsOf fs) + szL out
    omega
  have h2 : f.name.size ≤ szF (frOf f x) := by show f.name.size ≤ 10 + f.name.size + _ + _; omega
  omega

theorem ownBlock_len (A : Option Addr) (n m c : Nat) : (Value.slice A n c).ownBlock = (Value.slice A m c).ownBlock := by cases A <;> rfl

/-! ### shut -/
theorem pop_last (b : Bst) (f : Fr) (fs : List Fr) (h : b.fs = f :: fs) : lastText (inner (popB b)) = false := by
  obtain ⟨l, out⟩ := b
  simp only at h
  subst h
  show lastText (inner (addTo ⟨fs, out⟩ (nodeOf f))) = false
  rw [addTo_eq, inner_setIn, mstep_elt _ (n := nodeOf f) rfl, lastText_snoc]
  rfl
theorem StAt.shut {lo : Nat} {P Q : Nat → Prop} {s : Stt} {w w' : World} {f : Fm} {fs : List Fm} {A : Option Addr} {c : Nat} (h : StAt lo P Q s [] w) (hfs : s.fs = f :: fs) (hov : s.ov = .slice A (fs.length + 1) c)
    (hS : Shut s.a s.M (bldBlk s) (.slice A fs.length c) (s.n + 1) (cntF fs) w w') : ∃ P' Q', StAt lo P' Q' (s.shut (.slice A fs.length c) (s.n + 1)) [] w' ∧ ∀ k, P' k ∨ Q' k ∨ (s.shut (.slice A fs.length c) (s.n + 1)).X k → P k ∨ Q k ∨ s.X k := by
  have hf := h.frs
  rw [hfs] at hf
  obtain ⟨h1, h2, h3, h4, h5, h6⟩ := hf
  have hne : ∀ b, (P b ∨ Q b ∨ s.ov.ownBlock = some b ∨ ∃ t, s.tl = some t ∧ (b = t.g ∨ t.bv.ownBlock = some b)) → w'.heap[b]? = w.heap[b]? := by
    obtain ⟨es, ck, hM⟩ := h.cnt.heap
    rintro b (hb | hb | hb | ⟨t, ht, hb⟩)
    · exact hS.other b (h.lo b (.inl hb)).2 (fun e => h.px b hb (.inl e)) (fun e => h.px b hb (.inr (.inl e)))
    · exact hS.other b (h.lo b (.inr (.inl hb))).2 (fun e => h.qx b hb (.inl e)) (fun e => h.qx b hb (.inr (.inl e)))
    · obtain ⟨cur, hh⟩ := h.ovT hb
      exact hS.other b (h.lo b (.inr (.inr (.inr (.inr (.inl hb)))))).2 (ne_of_heap hh h.blk (cells_ne (by decide))) (ne_of_heap hh hM (fun e => by cases e))
    · have hlt := (h.lo b (.inr (.inr (.inr (.inr (.inr ⟨t, ht, hb⟩)))))).2
      have htl := h.tl t ht
      rcases hb with rfl | hb
      · exact hS.other _ hlt (ne_of_heap htl.blk h.blk (cells_ne (by decide))) (ne_of_heap htl.blk hM (fun e => by cases e))
      · obtain ⟨cur, fz, hh⟩ := htl.buf hb
        exact hS.other b hlt (ne_of_heap hh h.blk (cells_ne (by decide))) (ne_of_heap hh hM (fun e => by cases e))
  obtain ⟨s1, hs1⟩ : ∃ s1 : Stt, ({ s with ov := .slice A fs.length c, n := s.n + 1, fs := fs, tl := none } : Stt) = s1 := ⟨_, rfl⟩
  have hshut : s.shut (.slice A fs.length c) (s.n + 1) = s1.push (f.rp s.tn) := by
    unfold Stt.shut
    rw [hfs, ← hs1]
  have hX1 : ∀ b, s1.X b → b = s.a ∨ b = s.M ∨ s.ov.ownBlock = some b := by
    rw [← hs1]
    rintro b (hb | hb | hb | ⟨t, ht, _⟩)
    · exact .inl hb
    · exact .inr (.inl hb)
    · refine .inr (.inr ?_)
      rw [hov]
      exact (ownBlock_len _ _ _ _).trans hb
    · cases ht
  have hXs : ∀ b, s1.X b → s.X b := fun b hb => by
    rcases hX1 b hb with h | h | h
    · exact .inl h
    · exact .inr (.inl h)
    · exact .inr (.inr (.inl h))
  have hst1 : StAt lo (fun b => P b ∧ b ≠ f.g ∧ f.vk.ownBlock ≠ some b) Q s1 [f.g] w' := by
    have hx := hs1
    refine ⟨?_, ?_, ?_, ?_, fun t ht => ?_, fun b hb => h.pq b hb.1, fun b hb hx => h.px b hb.1 (hXs b hx), fun b hb hx => h.qx b hb (hXs b hx), fun b hb => ?_⟩
    · rw [← hs1]
      exact hS.cell
    · have ho := h.opn
      rw [hfs, hov] at ho
      have h7 := own_cut (m := fs.length) ho (by simp)
      have h8 : ((f :: fs).reverse.map fun f => pcell f.g).take fs.length = fs.reverse.map fun f => pcell f.g := by
        rw [List.reverse_cons, List.map_append, List.take_left' (by simp)]
      rw [h8] at h7
      rw [← hs1]
      exact ownsRow_same h7 (by decide) fun b hb => .inl (hne b (.inr (.inr (.inl (by rw [hov]; exact (ownBlock_len _ _ _ _).trans hb)))))
    · rw [← hs1]
      exact hS.cnt
    · have h9 := h6.keep (fun b hb => .inl (hne b (.inr (.inl hb)))) fun b hb => .inl (hne b (.inl hb.1))
      rw [← hs1]
      exact h9
    · rw [← hs1] at ht
      cases ht
    · have hz := hS.size
      have := h.lo b (by
        rcases hb with hb | hb | hb
        · exact .inl hb.1
        · exact .inr (.inl hb)
        · exact .inr (.inr (hXs b hb)))
      omega
  have htl1 : s1.tl = none := by rw [← hs1]
  rw [hshut]
  have hN : ∀ b, (b = f.g ∨ f.vk.ownBlock = some b ∨ ∃ t, s.tl = some t ∧ (b = t.g ∨ t.bv.ownBlock = some b)) → P b ∨ Q b ∨ s.X b := by
    rintro b (rfl | hb | hb)
    · exact .inl h1
    · exact .inl (h4.inP b hb)
    · exact .inr (.inr (.inr (.inr (.inr hb))))
  refine ⟨_, _, hst1.push (f.rp s.tn) htl1 (fun b => b = f.g ∨ f.vk.ownBlock = some b ∨ ∃ t, s.tl = some t ∧ (b = t.g ∨ t.bv.ownBlock = some b)) (fun b hb => ?_) ?_, fun k hk => ?_⟩
  · have hz := hS.size
    have hlo : lo ≤ b ∧ b < w.heap.size := by
      rcases hb with rfl | hb | hb
      · exact h.lo _ (.inl h1)
      · exact h.lo b (.inl (h4.inP b hb))
      · exact h.lo b (.inr (.inr (.inr (.inr (.inr hb)))))
    refine ⟨fun hp => ?_, fun hx => ?_, by omega, by omega⟩
    · rcases hb with hb | hb | hb
      · exact hp.2.1 hb
      · exact hp.2.2 hb
      · exact h.px b hp.1 (.inr (.inr (.inr hb)))
    · rcases hb with rfl | hb | ⟨t, ht, hb⟩
      · exact h.px _ h1 (hXs _ hx)
      · exact h.px b (h4.inP b hb) (hXs b hx)
      · have htl := h.tl t ht
        obtain ⟨es, ck, hM⟩ := h.cnt.heap
        rcases hb with rfl | hb
        · rcases hX1 _ hx with e | e | e
          · exact ne_of_heap htl.blk h.blk (cells_ne (by decide)) e
          · exact ne_of_heap htl.blk hM (fun e => by cases e) e
          · obtain ⟨cur, hh⟩ := h.ovT e
            exact ne_of_heap htl.blk hh (cells_ne (by decide)) rfl
        · obtain ⟨cur, fz, hh⟩ := htl.buf hb
          rcases hX1 _ hx with e | e | e
          · exact ne_of_heap hh h.blk (cells_ne (by decide)) e
          · exact ne_of_heap hh hM (fun e => by cases e) e
          · obtain ⟨cur2, hh2⟩ := h.ovT e
            exact ne_of_heap hh hh2 (cells_ne (by decide)) rfl
  · have hk := keptB_same (fun b hb => .inl (hne b (.inr (.inl hb))) : ∀ b, Q b → Same1 w w' b)
    rw [← s.tr_n]
    refine fm_one (lo := lo) (P := P) (.inr (.inl rfl)) ((hne _ (.inl h1)).trans h2) ((h3.keep hk.cell).mono fun b hb => .inl hb) ?_ (fun b hb => .inr (.inr (.inl hb))) (fun r hr => ((h5 r hr).keep hk).mono (fun b hb => .inl hb) fun k _ hb => .inl hb) fun r hr => ?_
    · rw [s.tr_g]
      rw [List.append_nil] at h4
      exact h4.keep fun b hb => .inl (hne b (.inl hb))
    · unfold Stt.tr at hr
      cases ht : s.tl with
      | none => rw [ht] at hr; cases hr
      | some t =>
        rw [ht] at hr
        simp at hr
        subst hr
        have htl := h.tl t ht
        have htl' : TlAt lo w' t := ⟨(hne _ (.inr (.inr (.inr ⟨t, ht, .inl rfl⟩)))).trans htl.blk, htl.bp, ⟨htl.own.1, by
          rcases htl.own.2 with h | ⟨g, cap, cur, fz, hv, hg, hh, r⟩
          · exact .inl h
          · exact .inr ⟨g, cap, cur, fz, hv, hg, (hne g (.inr (.inr (.inr ⟨t, ht, .inr (by rw [hv]; rfl)⟩)))).trans hh, r⟩⟩, htl.ne⟩
        exact Tl.one htl' (.inr (.inr (.inr ⟨t, rfl, .inl rfl⟩))) fun k hk => .inr (.inr (.inr ⟨t, rfl, .inr hk⟩))
  · rw [push_X] at hk
    rcases hk with hk | (hk | hk) | hk
    · exact .inl hk.1
    · exact .inr (.inl hk)
    · exact hN k hk
    · exact .inr (.inr (hXs k hk))

/-- Attributes do not lie where a builder's own words lie. -/
theorem attrs_off {lo : Nat} {P Q : Nat → Prop} {s : Stt} {gs : List Nat} {w w' : World} (h : StAt lo P Q s gs w) (hk : ∀ b, b < w.heap.size → b ≠ s.a → b ≠ s.M → w'.heap[b]? = w.heap[b]?) {B : Nat} (hB : B ≤ w.heap.size) {l : List (ByteArray × ByteArray)} {va : Value} (ha : AttrsAt (· < B) w l va) : AttrsAt (· < B) w' l va := by
  rcases Nat.eq_zero_or_pos l.length with h0 | h0
  · obtain rfl : l = [] := List.eq_nil_of_length_eq_zero h0
    obtain ⟨A, c, hv, hc, _⟩ := ha
    exact ⟨A, c, hv, hc, Cells.nil _ _ _⟩
  · obtain ⟨A, c, hv, hc, hx⟩ := ha
    refine ⟨A, c, hv, hc, fun hl => ?_⟩
    obtain ⟨b, o, hA, hb, hcell⟩ := hx hl
    refine ⟨b, o, hA, hb, fun j u hu => (World.cell?_of_block (a := ⟨b, o + j, none⟩) (hk b (Nat.lt_of_lt_of_le hb hB) (fun e => ?_) fun e => ?_)).trans (hcell j u hu)⟩
    · subst e
      obtain ⟨x, hx0⟩ : ∃ x, l[0]? = some x := ⟨_, List.getElem?_eq_getElem h0⟩
      have ha2 := acells_at hx0
      have c0 := hcell 0 _ (by simpa using ha2.1)
      have c1 := hcell 1 _ (by simpa using ha2.2)
      have e0 := (cell_at h.blk (o + 0)).symm.trans c0
      have e1 := (cell_at h.blk (o + 1)).symm.trans c1
      have ho : o + 1 < 9 := by
        have := (Array.getElem?_eq_some_iff.1 e1).1
        simpa [bldBlk] using this
      rcases (show o = 0 ∨ o = 1 ∨ o = 2 ∨ o = 3 ∨ o = 4 ∨ o = 5 ∨ o = 6 ∨ o = 7 by omega) with rfl | rfl | rfl | rfl | rfl | rfl | rfl | rfl <;> simp [bldBlk] at e0 e1
      rcases own_size h.opn with ⟨A2, c2, hov, _⟩
      rw [hov] at e1
      cases e1
    · subst e
      obtain ⟨es, ck, hM⟩ := h.cnt.heap
      have hl0 : 0 < (acells l).length := hl
      obtain ⟨u0, hu0⟩ : ∃ u, (acells l)[0]? = some u := ⟨_, List.getElem?_eq_getElem hl0⟩
      have c0 := hcell 0 _ hu0
      unfold World.cell? at c0
      rw [hM] at c0
      cases c0

/-- How many are open, as memory tells it. -/
def opLen (a : Nat) (w : World) : Nat := match w.cell? ⟨a, 7, none⟩ with | some (.slice _ n _) => n | _ => 0
theorem IsAtK.opLen {lo a : Nat} {b : Bst} {N : Nat} {K : Nat → Prop} {w : World} (h : IsAtK lo a b N K w) : opLen a w = b.fs.length := by
  obtain ⟨P, Q, s, rfl, rfl, h3, h4, h5, h6⟩ := h
  obtain ⟨A, c, hov, _⟩ := own_size h5.opn
  have c7 : w.cell? ⟨s.a, 7, none⟩ = some (.slice A s.fs.length c) := (cell_at h5.blk 7).trans (by rw [← hov]; rfl)
  unfold Proofs.Ytfdgmoakobjohaa.opLen
  rw [c7, bst_fs_len]

theorem shut_any {lo a : Nat} {b : Bst} {N : Nat} {K : Nat → Prop} {w : World} {fr : Fr} {rest : List Fr} (h : IsAtK lo a b N K w) (hb : b.fs = fr :: rest) (hz : szB b ≤ 100000) (hN : N ≤ 1000000) (hlo : lo ≤ w.heap.size) (hK : ∀ k, K k → k < w.heap.size) :
    Calls Try.prog 36 #[.pointer (some ⟨a, 0, none⟩)] w fun e w' => e = .returned (.string fr.name) ∧ IsAtK lo a (popB b) N K w' ∧ (∀ k, K k → w'.heap[k]? = w.heap[k]?) ∧ (∀ B l va, B ≤ w.heap.size → AttrsAt (· < B) w l va → AttrsAt (· < B) w' l va) ∧ Below lo w w' := by
  obtain ⟨P, Q, s, rfl, rfl, h3, h4, h5, h6⟩ := h
  obtain ⟨f, fs, hfs⟩ : ∃ f fs, s.fs = f :: fs := by
    cases hfs : s.fs with
    | nil =>
      have := bst_fs_len s []
      rw [hb, hfs] at this
      cases this
    | cons f fs => exact ⟨f, fs, rfl⟩
  have hnm : fr.name = f.name := by
    unfold Stt.bst at hb
    rw [hfs] at hb
    injection hb with hb _
    rw [← hb]
    rfl
  have hlen : s.fs.length = fs.length + 1 := by rw [hfs]; rfl
  refine (shutM_any h5 hfs (fs_small hz) (by omega) (by
    have : szB (bstOf (f :: fs) (s.tn ++ []) (s.R0.map Rp.n)) ≤ 100000 := by
      have := hz
      unfold Stt.bst at this
      rw [hfs] at this
      exact this
    have := name_small this
    omega)).mono ?_
  rintro e w' ⟨rfl, A, c, hov, hS⟩
  obtain ⟨P', Q', h7, h8⟩ := h5.shut hfs hov hS
  have e1 : (s.shut (.slice A fs.length c) (s.n + 1)).a = s.a ∧ (s.shut (.slice A fs.length c) (s.n + 1)).n = s.n + 1 ∧ (s.shut (.slice A fs.length c) (s.n + 1)).fs.length = fs.length := by
    unfold Stt.shut
    rw [hfs]
    exact ⟨(push_a _ _).1, (push_a _ _).2.2.1, push_len _ _⟩
  have h9 : ∀ k, K k → ¬ (P k ∨ Q k ∨ s.X k) := fun k hk h => by
    obtain ⟨q1, q2, q3⟩ := h6 k hk
    rcases h with h | h | h
    · exact q1 h
    · exact q2 h
    · exact q3 h
  refine ⟨by rw [hnm], ⟨P', Q', _, e1.1, shut_bst _ _ _ (by rw [hfs]; simp), by rw [e1.2.1, e1.2.2]; omega, fun _ => pop_last _ _ _ hb, h7, fun k hk => ⟨fun h => h9 k hk (h8 k (.inl h)), fun h => h9 k hk (h8 k (.inr (.inl h))), fun h => h9 k hk (h8 k (.inr (.inr h)))⟩⟩,
    fun k hk => hS.other k (hK k hk) (fun e => h9 k hk (.inr (.inr (.inl e)))) fun e => h9 k hk (.inr (.inr (.inr (.inl e)))), fun B l va hB ha => attrs_off h5 hS.other hB ha, ⟨hS.os, hS.tape, hS.output, hS.size, fun k hk => ?_⟩⟩
  have ha := (h5.lo s.a (.inr (.inr (.inl rfl)))).1
  have hM := (h5.lo s.M (.inr (.inr (.inr (.inl rfl))))).1
  exact hS.other k (by omega) (by omega) (by omega)

end Go.Proofs.Ytfdgmoakobjohaa

/- Part BdR. -/
namespace Go.Proofs.Ytfdgmoakobjohaa
open Go.RowKit
set_option linter.unusedVariables false

theorem bst_add (s : Stt) (n : Nd) (h : n.kind = 2 → n.text.data.toList ≠ [] ∧ lastText (inner (s.bst [])) = false) : s.bst [n] = addTo (s.bst []) n := by
  rw [addTo_eq, mstep_app h, inner_top]
  obtain ⟨a, M, k, ov, vk0, R0, fs, tl⟩ := s
  cases fs with
  | nil => simp [Stt.bst, Stt.topR, bstOf, setIn]
  | cons f fs => simp [Stt.bst, Stt.topR, bstOf, setIn, frOf]
theorem settled_X (s : Stt) (b : Nat) (h : s.settled.X b) : s.X b := by
  unfold Stt.settled at h
  cases ht : s.tl with
  | none => rw [ht] at h; exact h
  | some t =>
    rw [ht] at h
    simp only [push_X] at h
    rcases h with h | h | h | ⟨t', h', _⟩
    · exact .inl h
    · exact .inr (.inl h)
    · exact .inr (.inr (.inl h))
    · cases h'

/-- A builder with a node more behind all that is in the innermost element; blocks of K are none of what it has, and stay. -/
def PlusAt (lo a : Nat) (b : Bst) (N : Nat) (K : Nat → Prop) (w : World) (ng : Nat) (w' : World) : Prop :=
  ∃ P Q s, s.a = a ∧ s.bst [] = b ∧ s.tl = none ∧ s.n + s.fs.length ≤ N ∧ StAt lo P Q s [ng] w' ∧ (∀ k, K k → ¬ P k ∧ ¬ Q k ∧ ¬ s.X k) ∧ (∀ k, K k → w'.heap[k]? = w.heap[k]?) ∧ w.heap.size ≤ w'.heap.size
theorem addG_any {lo a : Nat} {b : Bst} {N : Nat} {K : Nat → Prop} {w : World} (h : IsAtK lo a b N K w) (ng : Nat) (hz : szB b ≤ 100000) (hlo : lo ≤ w.heap.size) (hK : ∀ k, K k → k < w.heap.size) :
    Calls Try.prog 38 #[.pointer (some ⟨a, 0, none⟩), .pointer (some ⟨ng, 0, none⟩)] w fun e w' => (∃ x, e = .returned x) ∧ PlusAt lo a b N K w ng w' ∧ Below lo w w' := by
  obtain ⟨P, Q, s, rfl, rfl, h3, h4, hst, h6⟩ := h
  refine (add_any hst ng (fs_small hz) (row_small hz) hlo).mono ?_
  rintro e w' ⟨hx, vk', ha⟩
  have hA := hst.added ha
  obtain ⟨Q', hS, hQ'⟩ := hA.settle
  have hw := withV_same s vk'
  have he := settled_a (s.withV vk')
  have hXs : ∀ k, (s.withV vk').settled.X k → s.X k := fun k hk => by have := settled_X _ k hk; rw [withV_X] at this; exact this
  refine ⟨hx, ⟨_, Q', _, he.1.trans hw.1, by rw [settled_bst, bst_withV], settled_tl _, by rw [he.2.1, he.2.2.1, hw.2.2.1, hw.2.2.2.2.2.2.2]; exact h3, hS, fun k hk => ⟨?_, ?_, ?_⟩, fun k hk => ?_, ha.size⟩, hst.added_bel ha hlo⟩
  · rintro (hp | hp)
    · exact (h6 k hk).1 hp
    · rcases ha.new with e | e
      · exact (h6 k hk).1 (hst.top.1.inP k (e ▸ hp))
      · have := e k hp
        have := hK k hk
        omega
  · intro hq
    rcases hQ' k hq with hq | hq
    · exact (h6 k hk).2.1 hq
    · rw [withV_X] at hq
      exact (h6 k hk).2.2 hq
  · intro hq
    exact (h6 k hk).2.2 (hXs k hq)
  · refine ha.other k (hK k hk) (fun e => ?_) fun e => (h6 k hk).1 (hst.top.1.inP k e)
    unfold Stt.topG at e
    cases hfs : s.fs with
    | nil =>
      rw [hfs] at e
      exact (h6 k hk).2.2 (.inl e)
    | cons f fs =>
      rw [hfs] at e
      have hf := hst.frs
      rw [hfs] at hf
      exact (h6 k hk).1 (e ▸ hf.1)

/-- It is closed: a comment, a void element. -/
theorem PlusAt.closed {lo a : Nat} {b : Bst} {N : Nat} {K : Nat → Prop} {w w' : World} (r : Rp) (h : PlusAt lo a b N K w r.g w') (hK : ∀ k, K k → lo ≤ k ∧ k < w.heap.size) (hr : POne (K) (inQ (K)) w r) (hk : r.n.kind ≠ 2) : IsAtB lo a (addTo b r.n) N w' := by
  obtain ⟨P, Q, s, rfl, rfl, h2, h3, h4, h5, h6, h7⟩ := h
  have hk1 := keptB_same (fun k hk => .inl (h6 k hk) : ∀ k, K k → Same1 w w' k)
  have hp := h4.push r h2 (K) (fun k hk => ⟨(h5 k hk).1, (h5 k hk).2.2, (hK k hk).1, Nat.lt_of_lt_of_le (hK k hk).2 h7⟩) ((hr.keep hk1).mono (fun b hb => .inr hb) fun k _ hb => .inr hb)
  have hbst : (s.push r).bst [] = addTo (s.bst []) r.n := by rw [bst_push _ _ h2]; exact bst_add s r.n fun e => absurd e hk
  refine ⟨_, _, _, (push_a s r).1, hbst, by rw [(push_a s r).2.2.1, push_len]; exact h3, fun _ => ?_, hp, fun k hk => hk.elim⟩
  rw [addTo_eq, inner_setIn, mstep_app fun e => absurd e hk, lastText_snoc]
  simpa using hk
/-- It is a text that may still grow. -/
theorem PlusAt.text {lo a : Nat} {b : Bst} {N : Nat} {K : Nat → Prop} {w w' : World} (t : Tl) (h : PlusAt lo a b N K w t.g w') (hK : ∀ k, K k → lo ≤ k ∧ k < w.heap.size) (ht : TlAt lo w t) (hg : K t.g) (hbv : t.bv = .slice none 0 0) (hne : t.rp.n.text.data.toList ≠ []) (hl : lastText (inner b) = false) : IsAtB lo a (addTo b t.rp.n) N w' := by
  obtain ⟨P, Q, s, rfl, rfl, h2, h3, h4, h5, h6, h7⟩ := h
  have htn : s.tn = [] := by unfold Stt.tn; rw [h2]
  have hbst : ({ s with tl := some t } : Stt).bst [] = addTo (s.bst []) t.rp.n := by
    rw [← bst_add s t.rp.n fun _ => ⟨hne, hl⟩]
    unfold Stt.bst
    rw [htn]
    rfl
  have hX : ∀ k, ({ s with tl := some t } : Stt).X k → s.X k ∨ k = t.g := by
    rintro k (hk | hk | hk | ⟨t', e, hk⟩)
    · exact .inl (.inl hk)
    · exact .inl (.inr (.inl hk))
    · exact .inl (.inr (.inr (.inl hk)))
    · injection e with e
      subst e
      rcases hk with hk | hk
      · exact .inr hk
      · rw [hbv] at hk; cases hk
  refine ⟨P, Q, { s with tl := some t }, rfl, hbst, h3, (fun e => by cases e), ⟨h4.blk, h4.opn, h4.cnt, ?_, fun t' e => ?_, h4.pq, fun k hk hx => ?_, fun k hk hx => ?_, fun k hk => ?_⟩, fun k hk => hk.elim⟩
  · have := h4.frs
    have htg : s.tg = [] := by unfold Stt.tg; rw [h2]
    rw [htg] at this
    exact this
  · injection e with e
    subst e
    refine ⟨(h6 _ hg).trans ht.blk, ht.bp, ⟨ht.own.1, ?_⟩, ht.ne⟩
    rcases ht.own.2 with h | ⟨g, cap, cur, fz, hv, _⟩
    · exact .inl h
    · rw [hbv] at hv
      cases hv
  · rcases hX k hx with hx | hx
    · exact h4.px k hk hx
    · subst hx; exact (h5 _ hg).1 hk
  · rcases hX k hx with hx | hx
    · exact h4.qx k hk hx
    · subst hx; exact (h5 _ hg).2.1 hk
  · rcases hk with hk | hk | hk
    · exact h4.lo k (.inl hk)
    · exact h4.lo k (.inr (.inl hk))
    · rcases hX k hk with hx | hx
      · exact h4.lo k (.inr (.inr hx))
      · subst hx
        exact ⟨(hK _ hg).1, Nat.lt_of_lt_of_le (hK _ hg).2 h7⟩

/-! ### an element that is open -/
theorem own_more2 {w w' : World} {lo n m : Nat} {e : TypeId} {v : Value} {xs ys : List Value} (h : w.ownsRow lo e 1 v n xs) (hn : n = m) (hx : xs = ys) : w.ownsRow lo e 1 v m ys := by subst hn; subst hx; exact h
/-- Behind add: the element is put behind the open ones, and its name is counted. -/
theorem PlusAt.frame {lo a : Nat} {b : Bst} {N : Nat} {K : Nat → Prop} {w w' : World} (f : Fm) (h : PlusAt lo a b N K w f.g w') (hK : ∀ k, K k → lo ≤ k ∧ k < w.heap.size) (hz : szB b ≤ 100000) (hN : N ≤ 1000000) (hnz : f.name.size ≤ 1000000)
    (hg : K f.g) (hb : w.heap[f.g]? = some (.cells (fmBlk f) 54 (0, 0))) (ha : AttrsAt (K) w f.attrs f.va) (hag : 0 < f.attrs.length → ∀ k, f.va.ownBlock = some k → k ≠ f.g) (hR : f.R = []) (hvk : f.vk = .slice none 0 0) :
    ∃ A n c, n ≤ 100000 ∧ w'.cell? ⟨a, 7, none⟩ = some (.slice A n c) ∧
    ∃ A' c' w2, (Builtin.append_ #[52, 52] 52 #[.slice A n c, .slice (some ⟨w'.heap.size, 0, none⟩) 1 1]).run Try.prog (w'.alloc (.cells #[.pointer (some ⟨f.g, 0, none⟩)] 68)) = .ok (.slice A' (n + 1) c') w2 ∧
      (∃ v, w2.cell? ⟨a, 7, none⟩ = some v) ∧ w2.frozen? ⟨a, 7, none⟩ = false ∧
      ∃ M cn, cn ≤ 100000 ∧ (∀ k, (∀ j, K j → ((w2.setCell ⟨a, 7, none⟩ (.slice A' (n + 1) c')).drewN k).heap[j]? = w.heap[j]?) ∧ ((w2.setCell ⟨a, 7, none⟩ (.slice A' (n + 1) c')).drewN k).cell? ⟨a, 8, none⟩ = some (.map (some M)) ∧
        (Instr.lookup 47 (.map (some M)) (.string f.name) false).run Try.prog ((w2.setCell ⟨a, 7, none⟩ (.slice A' (n + 1) c')).drewN k) = .ok (.int .i64 (cn : Nat)) ((w2.setCell ⟨a, 7, none⟩ (.slice A' (n + 1) c')).drewN k) ∧
        ∃ w3, (Instr.mapUpdate 47 (.map (some M)) (.string f.name) (.int .i64 ((cn : Int) + 1))).run Try.prog ((w2.setCell ⟨a, 7, none⟩ (.slice A' (n + 1) c')).drewN k) = .ok () w3 ∧ IsAtB lo a ⟨⟨f.name, f.attrs, []⟩ :: b.fs, b.out⟩ (N + 2) w3 ∧ Below lo w' w3) := by
  obtain ⟨P, Q, s, rfl, rfl, h2, h3, h4, h5, h6, h7⟩ := h
  obtain ⟨i0, hi, hz0, hz1, hz2⟩ := info_parts info_pnode
  obtain ⟨A, c, hov, hc⟩ := own_size h4.opn
  have hfl : s.fs.length ≤ 100000 := fs_small hz
  have c7 : w'.cell? ⟨s.a, 7, none⟩ = some (.slice A s.fs.length c) := (cell_at h4.blk 7).trans (by rw [← hov]; rfl)
  have hlw : lo ≤ w'.heap.size := by have := hK _ hg; omega
  refine ⟨A, s.fs.length, c, hfl, c7, ?_⟩
  obtain ⟨W, hW⟩ : ∃ W, w'.alloc (.cells #[.pointer (some ⟨f.g, 0, none⟩)] 68) = W := ⟨_, rfl⟩
  have hb0 : Below w'.heap.size w' W := by rw [← hW]; exact below_new _ _
  have hsW : W.heap.size = w'.heap.size + 1 := by rw [← hW]; simp
  have hnew : ∀ j u, [pcell f.g][j]? = some u → W.cell? ((⟨w'.heap.size, 0, none⟩ : Addr).add j) = some u := by
    rw [← hW]
    exact new_one w' _ _
  rw [hW]
  have hown : W.ownsRow lo 68 1 (.slice A s.fs.length c) s.fs.length (s.fs.reverse.map fun f => pcell f.g) := by rw [← hov]; exact own_below h4.opn hb0
  obtain ⟨v', w2, hrun, own', hgr, hnw⟩ := run_append_new (w := W) lo 52 52 68 i0 _ 1 8 Try.underlying52 hi hz0 hz1 hz2 rfl (by decide) (.slice A s.fs.length c) s.fs.length (s.fs.reverse.map fun f => pcell f.g) hown ⟨w'.heap.size, 0, none⟩ 1 1 [pcell f.g] rfl hnew (fun u hu => by simp at hu; subst hu; rfl) (by unfold maxLen; omega) (by omega) (by omega)
  obtain ⟨A', c', rfl, _⟩ := own_size own'
  have hgs := hgr.size
  -- blocks that stay
  have hst : ∀ k, k < w'.heap.size → s.ov.ownBlock ≠ some k → w2.heap[k]? = w'.heap[k]? := fun k hk hne => (hgr.block k (by omega) fun e => hne (by rw [hov]; exact e.symm)).trans (hb0.block k hk)
  obtain ⟨es, ck, hM⟩ := h4.cnt.heap
  have haov : s.ov.ownBlock ≠ some s.a := fun e => by
    obtain ⟨cur, hh⟩ := h4.ovT e
    exact ne_of_heap hh h4.blk (cells_ne (by decide)) rfl
  have hMov : s.ov.ownBlock ≠ some s.M := fun e => by
    obtain ⟨cur, hh⟩ := h4.ovT e
    exact ne_of_heap hh hM (fun e => by cases e) rfl
  have hMa : s.M ≠ s.a := ne_of_heap hM h4.blk (fun e => by cases e)
  have haw := (h4.lo s.a (.inr (.inr (.inl rfl)))).2
  have hMw := (h4.lo s.M (.inr (.inr (.inr (.inl rfl))))).2
  have hblk2 : w2.heap[s.a]? = some (.cells (bldBlk s) 56 (0, 0)) := (hst _ haw haov).trans h4.blk
  have hne' : (Value.slice A' (s.fs.length + 1) c').ownBlock ≠ some s.a := fun e => by
    rcases own'.2 with ⟨h1, _⟩ | ⟨g, cap, cur, h1, _, hh, _⟩
    · rw [h1] at e; cases e
    · rw [h1] at e
      injection e with e
      subst e
      exact ne_of_heap hblk2 hh (cells_ne (by decide)) rfl
  have hneM : (Value.slice A' (s.fs.length + 1) c').ownBlock ≠ some s.M := fun e => by
    rcases own'.2 with ⟨h1, _⟩ | ⟨g, cap, cur, h1, _, hh, _⟩
    · rw [h1] at e; cases e
    · rw [h1] at e
      injection e with e
      subst e
      exact ne_of_heap ((hst _ hMw hMov).trans hM) hh (fun e => by cases e) rfl
  refine ⟨A', c', w2, hrun, ⟨_, cell_at hblk2 7⟩, froz_at hblk2 7, s.M, cntF s.fs f.name.data.toList, Nat.le_trans (cnt_le _ _) hfl, fun k => ?_⟩
  obtain ⟨wx, hwx⟩ : ∃ wx, (w2.setCell ⟨s.a, 7, none⟩ (.slice A' (s.fs.length + 1) c')).drewN k = wx := ⟨_, rfl⟩
  have hxo : ∀ j, j ≠ s.a → wx.heap[j]? = w2.heap[j]? := fun j hj => by rw [← hwx]; exact heap_setCell_other _ _ _ _ hj
  have hxa : wx.heap[s.a]? = some (.cells ((bldBlk s).setIfInBounds 7 (.slice A' (s.fs.length + 1) c')) 56 (0, 0)) := by rw [← hwx]; exact heap_setCell_same w2 s.a 7 _ _ _ hblk2
  have hxs : wx.heap.size = w2.heap.size := by rw [← hwx]; simp
  have hxO : wx.os = w'.os ∧ wx.tape = w'.tape ∧ wx.output = w'.output := by rw [← hwx]; exact ⟨hgr.os.trans hb0.os, hgr.tape.trans hb0.tape, hgr.output.trans hb0.output⟩
  rw [hwx]
  have hcx : CntAt wx s.M s.n (cntF s.fs) := h4.cnt.kept ((hxo _ hMa).trans (hst _ hMw hMov))
  have hlk := hcx.look f.name (by unfold maxLen; omega)
  obtain ⟨w3, hup, hc3, hg3⟩ := hcx.store (by omega) f.name (by unfold maxLen; omega) (cntF s.fs f.name.data.toList + 1) (by have := cnt_le s.fs f.name.data.toList; omega) ((cntF s.fs f.name.data.toList : Int) + 1) (by omega)
  have h3s := hg3.size
  refine ⟨fun j hj => (hxo j fun e => (h5 j hj).2.2 (.inl e)).trans ((hst j (Nat.lt_of_lt_of_le (hK j hj).2 h7) fun e => (h5 j hj).2.2 (.inr (.inr (.inl e)))).trans (h6 j hj)), cell_at hxa 8, hlk, w3, hup, ?_, ⟨hg3.os.trans hxO.1, hg3.tape.trans hxO.2.1, hg3.output.trans hxO.2.2, by omega, fun j hj => ?_⟩⟩
  · have h3o : ∀ j, j < w'.heap.size → j ≠ s.a → j ≠ s.M → s.ov.ownBlock ≠ some j → w3.heap[j]? = w'.heap[j]? := fun j hj h8 h9 h10 => (hg3.block j (by omega) fun e => h9 (by injection e)).trans ((hxo j h8).trans (hst j hj h10))
    have hQ3 : ∀ j, Q j → w3.heap[j]? = w'.heap[j]? := fun j hj => h3o j (h4.lo j (.inr (.inl hj))).2 (fun e => h4.qx j hj (.inl e)) (fun e => h4.qx j hj (.inr (.inl e))) fun e => h4.qx j hj (.inr (.inr (.inl e)))
    have hP3 : ∀ j, P j → w3.heap[j]? = w'.heap[j]? := fun j hj => h3o j (h4.lo j (.inl hj)).2 (fun e => h4.px j hj (.inl e)) (fun e => h4.px j hj (.inr (.inl e))) fun e => h4.px j hj (.inr (.inr (.inl e)))
    have hN3 : ∀ j, K j → w3.heap[j]? = w.heap[j]? := fun j hj => (h3o j (Nat.lt_of_lt_of_le (hK j hj).2 h7) (fun e => (h5 j hj).2.2 (.inl e)) (fun e => (h5 j hj).2.2 (.inr (.inl e))) fun e => (h5 j hj).2.2 (.inr (.inr (.inl e)))).trans (h6 j hj)
    -- the new open row's block is none of P, Q, nor new between w0 and w
    have hov' : ∀ j, (Value.slice A' (s.fs.length + 1) c').ownBlock = some j → s.ov.ownBlock = some j ∨ w'.heap.size ≤ j := fun j hj => by
      rcases hnw with e | e
      · left
        rw [hov]
        exact e ▸ hj
      · have := e j hj
        exact .inr (by omega)
    have hov3 : ∀ j, (Value.slice A' (s.fs.length + 1) c').ownBlock = some j → lo ≤ j ∧ j < w3.heap.size := fun j hj => by
      have := own'.lt j hj
      exact ⟨this.1, by omega⟩
    obtain ⟨s3, hs3⟩ : ∃ s3 : Stt, (⟨s.a, s.M, s.n + 1, .slice A' (s.fs.length + 1) c', s.vk0, s.R0, f :: s.fs, none⟩ : Stt) = s3 := ⟨_, rfl⟩
    have hX3 : ∀ j, s3.X j → s.X j ∨ w'.heap.size ≤ j := by
      rw [← hs3]
      rintro j (hj | hj | hj | ⟨t, e, _⟩)
      · exact .inl (.inl hj)
      · exact .inl (.inr (.inl hj))
      · rcases hov' j hj with e | e
        · exact .inl (.inr (.inr (.inl e)))
        · exact .inr e
      · cases e
    have hbst3 : s3.bst [] = ⟨⟨f.name, f.attrs, []⟩ :: (s.bst []).fs, (s.bst []).out⟩ := by
      have htn : s.tn = [] := by unfold Stt.tn; rw [h2]
      rw [← hs3]
      unfold Stt.bst
      show bstOf (f :: s.fs) [] (s.R0.map Rp.n) = _
      rw [htn]
      show (⟨⟨f.name, f.attrs, f.R.map Rp.n ++ []⟩ :: frsOf s.fs, s.R0.map Rp.n⟩ : Bst) = _
      rw [hR]
      cases hfs : s.fs with
      | nil => simp [bstOf, frsOf]
      | cons g gs => simp [bstOf, frsOf]
    refine ⟨fun j => P j ∨ j = f.g, fun j => Q j ∨ (K j ∧ j ≠ f.g), s3, by rw [← hs3], hbst3, by rw [← hs3]; show s.n + 1 + (s.fs.length + 1) ≤ N + 2; omega, fun _ => rfl, ?_, fun k hk => hk.elim⟩
    refine ⟨?_, ?_, ?_, ?_, fun t e => ?_, fun j hj hq => ?_, fun j hj hx => ?_, fun j hj hx => ?_, fun j hj => ?_⟩
    · rw [← hs3]
      exact (hg3.block s.a (by omega) fun e => hMa (by injection e with e; exact e.symm)).trans hxa
    · rw [← hs3]
      have h11 : w3.ownsRow lo 68 1 (.slice A' (s.fs.length + 1) c') (s.fs.length + 1) (s.fs.reverse.map (fun f => pcell f.g) ++ [pcell f.g]) :=
        ownsRow_same own' (by decide) fun j hj => .inl ((hg3.block j (by have := own'.lt j hj; omega) fun e => hneM (by injection e with e; rw [hj, e])).trans (hxo j fun e => hne' (by rw [hj, e])))
      show w3.ownsRow lo 68 1 (.slice A' (s.fs.length + 1) c') (s.fs.length + 1) ((f :: s.fs).reverse.map fun f => pcell f.g)
      rw [List.reverse_cons, List.map_append]
      exact h11
    · rw [← hs3]
      have : updN (cntF s.fs) f.name.data.toList (cntF s.fs f.name.data.toList + 1) = cntF (f :: s.fs) := by
        funext l
        unfold updN
        rw [cnt_cons]
        by_cases e : l = f.name.data.toList
        · rw [if_pos e, e, if_pos rfl]
        · rw [if_neg e, if_neg fun h => e h.symm]
          rfl
      rw [this] at hc3
      exact hc3
    · rw [← hs3]
      refine ⟨.inr rfl, (hN3 _ hg).trans hb, ?_, ⟨?_, fun j hj => ?_⟩, fun r hr => ?_, ?_⟩
      · obtain ⟨A9, c9, hv9, hc9, hx9⟩ := ha
        refine ⟨A9, c9, hv9, hc9, fun h0 => ?_⟩
        obtain ⟨b9, o9, hA9, hS9, hcell9⟩ := hx9 h0
        exact ⟨b9, o9, hA9, .inr ⟨hS9, hag (by rw [acells_length] at h0; omega) b9 (by rw [hv9, hA9]; rfl)⟩, fun j u hu => (World.cell?_of_block (a := ⟨b9, o9 + j, none⟩) (hN3 _ hS9)).trans (hcell9 j u hu)⟩
      · rw [hR, hvk]
        exact World.ownsRow_nil _ _ _ _
      · rw [hvk] at hj; cases hj
      · rw [hR] at hr; cases hr
      · have hf := h4.frs
        have htg : s.tg = [] := by unfold Stt.tg; rw [h2]
        rw [htg, List.nil_append] at hf
        refine (hf.keep (fun j hj => .inl (hQ3 j hj)) fun j hj => .inl (hP3 j hj)).mono (fun j hj => .inl hj) fun j hj => ⟨.inl hj, fun e => ?_, fun e => ?_⟩
        · subst e; exact (h5 _ hg).1 hj
        · rw [hvk] at e; cases e
    · rw [← hs3] at e; cases e
    · rcases hj with hj | hj
      · rcases hq with hq | hq
        · exact h4.pq j hj hq
        · exact (h5 j hq.1).1 hj
      · subst hj
        rcases hq with hq | hq
        · exact (h5 _ hg).2.1 hq
        · exact hq.2 rfl
    · rcases hX3 j hx with hx | hx
      · rcases hj with hj | hj
        · exact h4.px j hj hx
        · subst hj; exact (h5 _ hg).2.2 hx
      · rcases hj with hj | hj
        · have := (h4.lo j (.inl hj)).2; omega
        · subst hj; have := (hK _ hg).2; omega
    · rcases hX3 j hx with hx | hx
      · rcases hj with hj | hj
        · exact h4.qx j hj hx
        · exact (h5 j hj.1).2.2 hx
      · rcases hj with hj | hj
        · have := (h4.lo j (.inr (.inl hj))).2; omega
        · have := (hK j hj.1).2; omega
    · have key : ∀ i, lo ≤ i ∧ i < w'.heap.size → lo ≤ i ∧ i < w3.heap.size := fun i hi => ⟨hi.1, by omega⟩
      have hnw2 : ∀ i, K i → lo ≤ i ∧ i < w'.heap.size := fun i hi => ⟨(hK i hi).1, Nat.lt_of_lt_of_le (hK i hi).2 h7⟩
      rcases hj with (hj | hj) | (hj | hj) | hj
      · exact key j (h4.lo j (.inl hj))
      · subst hj; exact key _ (hnw2 _ hg)
      · exact key j (h4.lo j (.inr (.inl hj)))
      · exact key j (hnw2 j hj.1)
      · rw [← hs3] at hj
        rcases hj with hj | hj | hj | ⟨t, e, _⟩
        · rw [hj]; exact key _ (h4.lo _ (.inr (.inr (.inl rfl))))
        · rw [hj]; exact key _ (h4.lo _ (.inr (.inr (.inr (.inl rfl)))))
        · exact hov3 j hj
        · cases e
  · have ha' := (h4.lo s.a (.inr (.inr (.inl rfl)))).1
    have hM' := (h4.lo s.M (.inr (.inr (.inr (.inl rfl))))).1
    exact (hg3.block j (by omega) fun e => by injection e with e; omega).trans ((hxo j (by omega)).trans (hst j (by omega) fun e => by have := (h4.lo j (.inr (.inr (.inr (.inr (.inl e)))))).1; omega))

end Go.Proofs.Ytfdgmoakobjohaa

/- Part One. -/
namespace Go.Proofs.Ytfdgmoakobjohaa
open Go.RowKit
set_option linter.unusedVariables false

/-- Is it a byte that goes on? -/
def folB (x : Nat) : Bool := decide (128 ≤ x ∧ x < 192)

theorem folB_cont {l : List UInt8} {j : Nat} (h : j < l.length) : cont l j = folB (byt l j) := by
  unfold cont folB
  rw [Bool.eq_iff_iff]
  simp
  omega

/-- What has been reckoned after the bytes ahead of the k-th. -/
def oneV (l : List UInt8) (v0 : Int) : Nat → Int
  | 0 => v0
  | 1 => v0
  | k + 2 => 64 * oneV l v0 (k + 1) + byt l (k + 1) - 128

theorem oneV_step (l : List UInt8) (v0 : Int) {k : Nat} (h : 1 ≤ k) : oneV l v0 (k + 1) = 64 * oneV l v0 k + byt l k - 128 := by
  obtain ⟨m, rfl⟩ : ∃ m, k = m + 1 := ⟨k - 1, by omega⟩
  rfl

theorem oneV_bd (l : List UInt8) (v0 : Int) (h0 : 0 ≤ v0) (h1 : v0 ≤ 31) : ∀ k, k ≤ 4 → -1000000 ≤ oneV l v0 k ∧ oneV l v0 k ≤ 20000000
  | 0, _ => by show -1000000 ≤ v0 ∧ v0 ≤ 20000000; omega
  | 1, _ => by show -1000000 ≤ v0 ∧ v0 ≤ 20000000; omega
  | 2, _ => by
    have b1 := byt_lt l 1
    show -1000000 ≤ 64 * v0 + byt l 1 - 128 ∧ 64 * v0 + byt l 1 - 128 ≤ 20000000
    omega
  | 3, _ => by
    have b1 := byt_lt l 1
    have b2 := byt_lt l 2
    show -1000000 ≤ 64 * (64 * v0 + byt l 1 - 128) + byt l 2 - 128 ∧ 64 * (64 * v0 + byt l 1 - 128) + byt l 2 - 128 ≤ 20000000
    omega
  | 4, _ => by
    have b1 := byt_lt l 1
    have b2 := byt_lt l 2
    have b3 := byt_lt l 3
    show -1000000 ≤ 64 * (64 * (64 * v0 + byt l 1 - 128) + byt l 2 - 128) + byt l 3 - 128 ∧ 64 * (64 * (64 * v0 + byt l 1 - 128) + byt l 2 - 128) + byt l 3 - 128 ≤ 20000000
    omega
  | k + 5, h => by omega

theorem ret_two {k k' : IntKind} {a b c d : Int} (h : a = b) (h' : c = d) : Ending.returned (.tuple #[.int k a, .int k' c]) = .returned (.tuple #[.int k b, .int k' d]) := by rw [h, h']

theorem folB_yes {x : Nat} (h : 128 ≤ x ∧ x < 192) : folB x = true := by unfold folB; exact decide_eq_true h
theorem folB_no {x : Nat} (h : ¬ (128 ≤ x ∧ x < 192)) : folB x = false := by unfold folB; exact decide_eq_false h

theorem dec_low {l : List UInt8} (h : byt l 0 < 128) : dec l = (byt l 0, 1) := by unfold dec; rw [if_pos h]
theorem dec_none {l : List UInt8} (h : (128 ≤ byt l 0 ∧ byt l 0 < 192) ∨ 248 ≤ byt l 0) : dec l = (65533, 1) := by
  have b0 := byt_lt l 0
  unfold dec
  rw [if_neg (by omega), if_neg (by omega), if_neg (by omega), if_neg (by omega)]

theorem cont_short {l : List UInt8} {j : Nat} (h : ¬ j < l.length) : cont l j = false := by
  unfold cont
  simp
  omega

theorem dec_stop2 {l : List UInt8} (h1 : 192 ≤ byt l 0) (h2 : byt l 0 < 224) {j : Nat} (hj : 1 ≤ j) (hj' : j < 2) (hk : cont l j = false) : dec l = (65533, 1) := by
  obtain rfl : j = 1 := by omega
  unfold dec
  rw [if_neg (by omega), if_neg (by rw [hk]; simp), if_neg (by omega), if_neg (by omega)]

theorem dec_all2 {l : List UInt8} (h1 : 192 ≤ byt l 0) (h2 : byt l 0 < 224) (hl : 2 ≤ l.length) (c1 : folB (byt l 1) = true) :
    dec l = if (oneV l ((byt l 0 : Int) - 192) 2 < 128 ∨ 1114111 < oneV l ((byt l 0 : Int) - 192) 2 ∨ (55296 ≤ oneV l ((byt l 0 : Int) - 192) 2 ∧ oneV l ((byt l 0 : Int) - 192) 2 ≤ 57343)) then (65533, 1) else ((oneV l ((byt l 0 : Int) - 192) 2).toNat, 2) := by
  have k1 : cont l 1 = true := (folB_cont (by omega)).trans c1
  have f1 : 128 ≤ byt l 1 ∧ byt l 1 < 192 := of_decide_eq_true c1
  have e : oneV l ((byt l 0 : Int) - 192) 2 = 64 * ((byt l 0 : Int) - 192) + byt l 1 - 128 := rfl
  rw [e]
  clear e
  unfold dec
  rw [if_neg (by omega), if_pos ⟨by omega, k1⟩]
  split
  · rw [if_neg (by omega)]
    simp only [Prod.mk.injEq, and_true]
    omega
  · rw [if_pos (by omega)]

theorem dec_stop3 {l : List UInt8} (h1 : 224 ≤ byt l 0) (h2 : byt l 0 < 240) {j : Nat} (hj : 1 ≤ j) (hj' : j < 3) (hk : cont l j = false) : dec l = (65533, 1) := by
  have : j = 1 ∨ j = 2 := by omega
  unfold dec
  rw [if_neg (by omega), if_neg (by omega)]
  rw [if_neg (by rcases this with rfl | rfl <;> (rw [hk]; simp)), if_neg (by omega)]

theorem dec_all3 {l : List UInt8} (h1 : 224 ≤ byt l 0) (h2 : byt l 0 < 240) (hl : 3 ≤ l.length) (c1 : folB (byt l 1) = true) (c2 : folB (byt l 2) = true) :
    dec l = if (oneV l ((byt l 0 : Int) - 224) 3 < 2048 ∨ 1114111 < oneV l ((byt l 0 : Int) - 224) 3 ∨ (55296 ≤ oneV l ((byt l 0 : Int) - 224) 3 ∧ oneV l ((byt l 0 : Int) - 224) 3 ≤ 57343)) then (65533, 1) else ((oneV l ((byt l 0 : Int) - 224) 3).toNat, 3) := by
  have k1 : cont l 1 = true := (folB_cont (by omega)).trans c1
  have f1 : 128 ≤ byt l 1 ∧ byt l 1 < 192 := of_decide_eq_true c1
  have k2 : cont l 2 = true := (folB_cont (by omega)).trans c2
  have f2 : 128 ≤ byt l 2 ∧ byt l 2 < 192 := of_decide_eq_true c2
  have e : oneV l ((byt l 0 : Int) - 224) 3 = 64 * (64 * ((byt l 0 : Int) - 224) + byt l 1 - 128) + byt l 2 - 128 := rfl
  rw [e]
  clear e
  unfold dec
  rw [if_neg (by omega), if_neg (by omega), if_pos ⟨by omega, k1, k2⟩]
  split
  · rw [if_neg (by omega)]
    simp only [Prod.mk.injEq, and_true]
    omega
  · rw [if_pos (by omega)]

theorem dec_stop4 {l : List UInt8} (h1 : 240 ≤ byt l 0) (h2 : byt l 0 < 248) {j : Nat} (hj : 1 ≤ j) (hj' : j < 4) (hk : cont l j = false) : dec l = (65533, 1) := by
  have : j = 1 ∨ j = 2 ∨ j = 3 := by omega
  unfold dec
  rw [if_neg (by omega), if_neg (by omega), if_neg (by omega)]
  rw [if_neg (by rcases this with rfl | rfl | rfl <;> (rw [hk]; simp))]

theorem dec_all4 {l : List UInt8} (h1 : 240 ≤ byt l 0) (h2 : byt l 0 < 248) (hl : 4 ≤ l.length) (c1 : folB (byt l 1) = true) (c2 : folB (byt l 2) = true) (c3 : folB (byt l 3) = true) :
    dec l = if (oneV l ((byt l 0 : Int) - 240) 4 < 65536 ∨ 1114111 < oneV l ((byt l 0 : Int) - 240) 4 ∨ (55296 ≤ oneV l ((byt l 0 : Int) - 240) 4 ∧ oneV l ((byt l 0 : Int) - 240) 4 ≤ 57343)) then (65533, 1) else ((oneV l ((byt l 0 : Int) - 240) 4).toNat, 4) := by
  have k1 : cont l 1 = true := (folB_cont (by omega)).trans c1
  have f1 : 128 ≤ byt l 1 ∧ byt l 1 < 192 := of_decide_eq_true c1
  have k2 : cont l 2 = true := (folB_cont (by omega)).trans c2
  have f2 : 128 ≤ byt l 2 ∧ byt l 2 < 192 := of_decide_eq_true c2
  have k3 : cont l 3 = true := (folB_cont (by omega)).trans c3
  have f3 : 128 ≤ byt l 3 ∧ byt l 3 < 192 := of_decide_eq_true c3
  have e : oneV l ((byt l 0 : Int) - 240) 4 = 64 * (64 * (64 * ((byt l 0 : Int) - 240) + byt l 1 - 128) + byt l 2 - 128) + byt l 3 - 128 := rfl
  rw [e]
  clear e
  unfold dec
  rw [if_neg (by omega), if_neg (by omega), if_neg (by omega), if_pos ⟨by omega, k1, k2, k3⟩]
  split
  · rw [if_neg (by omega)]
    simp only [Prod.mk.injEq, and_true]
    omega
  · rw [if_pos (by omega)]

end Go.Proofs.Ytfdgmoakobjohaa

/- Part RunesR. -/
namespace Go.Proofs.Ytfdgmoakobjohaa
open Go.RowKit
set_option linter.unusedVariables false

theorem info_rune : (Try.prog.info? 21).map (fun i => (i.zero, i.size, i.bytes)) = some (some (.int .i32 0), 1, 4) := by kernel_rfl

theorem byteCells_drop (l : List UInt8) (k j : Nat) : (Lib.byteCells (l.drop k))[j]? = (Lib.byteCells l)[k + j]? := by
  unfold Lib.byteCells
  rw [List.getElem?_map, List.getElem?_map, List.getElem?_drop]

/-- Characters as cells. -/
def rcells (l : List Int) : List Value := l.map (Value.int .i32)
theorem rcells_length (l : List Int) : (rcells l).length = l.length := by simp [rcells]
theorem rcells_append (a b : List Int) : rcells (a ++ b) = rcells a ++ rcells b := by simp [rcells]

end Go.Proofs.Ytfdgmoakobjohaa

/- Part BytesR. -/
namespace Go.Proofs.Ytfdgmoakobjohaa
open Go.RowKit
set_option linter.unusedVariables false

theorem lit_end (w : World) (r : Int) {cs : Array Value} {n : Nat} (hcs : cs.toList = Lib.runeCells r) (hn : cs.size = n) :
    ∃ A' c', Ending.returned (.slice (some ⟨w.heap.size, 0, none⟩) n n) = .returned (.slice A' (Lib.encodeRune r).length c') ∧ (Lib.encodeRune r).length ≤ c' ∧
      (w.alloc (.cells cs 5)).ownsRow w.heap.size 5 1 (.slice A' (Lib.encodeRune r).length c') (Lib.encodeRune r).length (Lib.byteCells (Lib.encodeRune r)) ∧ Below w.heap.size w (w.alloc (.cells cs 5)) := by
  have hl := Lib.runeCells_le r
  have h1 : (Lib.encodeRune r).length = n := by rw [← Lib.runeCells_length, ← hcs, ← hn]; simp
  refine ⟨_, n, by rw [h1], by omega, ?_, (Below.refl _ _).alloc (Nat.le_refl _) _⟩
  rw [Lib.byteCells_encodeRune, ← hcs, h1]
  rw [Lib.runeCells_length] at hl
  exact own_lit w 5 cs n hn (by unfold maxLen; omega)

theorem info_byte : (Try.prog.info? 5).map (fun i => (i.zero, i.size, i.bytes)) = some (some (.int .u8 0), 1, 1) := by kernel_rfl

end Go.Proofs.Ytfdgmoakobjohaa

/- Part TextR. -/
namespace Go.Proofs.Ytfdgmoakobjohaa
open Go.RowKit
set_option linter.unusedVariables false
end Go.Proofs.Ytfdgmoakobjohaa

/- Part RightR. -/
namespace Go.Proofs.Ytfdgmoakobjohaa
open Go.RowKit
set_option linter.unusedVariables false

/-- The character ahead of the k-th, or 0. -/
def prev (R : List Int) (k : Nat) : Int := if k = 0 then 0 else R.getD (k - 1) 0

theorem prev_zero (R : List Int) : prev R 0 = 0 := rfl
theorem prev_succ {R : List Int} {k : Nat} {x : Int} (h : R[k]? = some x) : prev R (k + 1) = x := by
  unfold prev
  rw [if_neg (by omega), Nat.add_sub_cancel, List.getD_eq_getElem?_getD, h]
  rfl

theorem okR_i32 {l : List Int} (h : ∀ r ∈ l, okR r) : i32s l := by
  intro r hr
  have := h r hr
  unfold okR at this
  omega

structure RightRAt (w1 wr : World) (R : List Int) (v : Value) (k : Nat) (acc : List Int) : Prop where
  le : k ≤ R.length
  is : norm 0 R = acc ++ norm (prev R k) (R.drop k)
  len : acc.length ≤ k
  own : wr.ownsRow w1.heap.size 21 1 v acc.length (rcells acc)
  bel : Below w1.heap.size w1 wr

/-- A character is appended. -/
theorem RightRAt.put {w1 wr w2 : World} {R : List Int} {v v' : Value} {k : Nat} {acc : List Int} {x y : Int} {o : Obj} (h : RightRAt w1 wr R v k acc) (hx : R[k]? = some x)
    (hn : ∀ t, norm (prev R k) (x :: t) = y :: norm x t) (hown : w2.ownsRow w1.heap.size 21 1 v' (acc.length + 1) (rcells acc ++ [.int .i32 y])) (hg : (wr.alloc o).grownBy w2 v.ownBlock) :
    RightRAt w1 w2 R v' (k + 1) (acc ++ [y]) := by
  have hk := (List.getElem?_eq_some_iff.1 hx).1
  refine ⟨by omega, ?_, by have := h.len; simp; omega, ?_, ?_⟩
  · rw [h.is, drop_at hx, hn, prev_succ hx, List.append_assoc]
    rfl
  · rw [rcells_append, List.length_append]
    exact hown
  · exact (h.bel.alloc h.bel.size _).grown hg (by have := h.bel.size; simp; omega) (fun g hg => (h.own.lt g hg).1)

/-- A character is passed over. -/
theorem RightRAt.pass {w1 wr : World} {R : List Int} {v : Value} {k : Nat} {acc : List Int} (h : RightRAt w1 wr R v k acc) (hx : R[k]? = some 10) (hp : prev R k = 13) : RightRAt w1 wr R v (k + 1) acc := by
  have hk := (List.getElem?_eq_some_iff.1 hx).1
  refine ⟨by omega, ?_, by have := h.len; omega, h.own, h.bel⟩
  rw [h.is, drop_at hx, hp, norm_10, prev_succ hx]

end Go.Proofs.Ytfdgmoakobjohaa

/- Part NamR. -/
namespace Go.Proofs.Ytfdgmoakobjohaa
open Go.RowKit
set_option linter.unusedVariables false

theorem eq_two (a b : ByteArray) : (a.toList == b.toList) = decide (a.data.toList = b.data.toList) := by
  rw [Lib.toList_data, Lib.toList_data]
  by_cases h : a.data.toList = b.data.toList
  · rw [h]; simp
  · rw [decide_eq_false h, beq_eq_false_iff_ne]
    exact h

/-- The first 30 bytes. -/
def few3S (s : ByteArray) : ByteArray := if 30 < s.size then s.extract 0 30 else s
theorem few3S_size (s : ByteArray) : (few3S s).size ≤ 30 := by
  unfold few3S
  split
  · rw [ByteArray.size_extract]; omega
  · omega

set_option maxHeartbeats 400000 in
theorem few3_any (s : ByteArray) (w : World) (hm : s.size ≤ maxLen) :
    Calls Try.prog 33 #[.string s] w fun e w' => e = .returned (.string (few3S s)) ∧ w = w' := by
  unfold maxLen at hm
  by_cases h : 30 < s.size
  · have hf := Lib.hid (show few3S s = s.extract 0 30 by unfold few3S; rw [if_pos h])
    go_enter Try.func33, Try.ntmps33
    go_wp2
    go_ret
    exact ⟨by rw [hf.out]; rfl, rfl⟩
  · have hf := Lib.hid (show few3S s = s by unfold few3S; rw [if_neg h])
    go_enter Try.func33, Try.ntmps33
    go_wp2
    go_ret
    exact ⟨by rw [hf.out]; rfl, rfl⟩

theorem eqs (s : ByteArray) (l : List UInt8) : (s.toList == l) = decide (s.data.toList = l) := by
  rw [Lib.toList_data]
  by_cases h : s.data.toList = l
  · rw [h]; simp
  · rw [decide_eq_false h, beq_eq_false_iff_ne]
    exact h

set_option maxHeartbeats 1000000 in
theorem voidR_any (s : ByteArray) (w : World) :
    Calls Try.prog 17 #[.string s] w fun e w' => e = .returned (.bool (voidB s.data.toList)) ∧ w = w' := by
  have h1 := eqs s [98, 114]
  have h2 := eqs s [104, 114]
  have h3 := eqs s [105, 109, 103]
  have h4 := eqs s [105, 110, 112, 117, 116]
  have h5 := eqs s [119, 98, 114]
  obtain ⟨q1, e1⟩ : ∃ q, decide (s.data.toList = [98, 114]) = q := ⟨_, rfl⟩
  obtain ⟨q2, e2⟩ : ∃ q, decide (s.data.toList = [104, 114]) = q := ⟨_, rfl⟩
  obtain ⟨q3, e3⟩ : ∃ q, decide (s.data.toList = [105, 109, 103]) = q := ⟨_, rfl⟩
  obtain ⟨q4, e4⟩ : ∃ q, decide (s.data.toList = [105, 110, 112, 117, 116]) = q := ⟨_, rfl⟩
  obtain ⟨q5, e5⟩ : ∃ q, decide (s.data.toList = [119, 98, 114]) = q := ⟨_, rfl⟩
  have HF := Lib.hid (show voidB s.data.toList = (q1 || q2 || q3 || q4 || q5) by unfold voidB; rw [e1, e2, e3, e4, e5])
  rw [e1] at h1
  rw [e2] at h2
  rw [e3] at h3
  rw [e4] at h4
  rw [e5] at h5
  clear e1 e2 e3 e4 e5
  cases q1
  case' false => cases q2
  case' false.false => cases q3
  case' false.false.false => cases q4
  case' false.false.false.false => cases q5
  all_goals
    go_enter Try.func17, Try.ntmps17
    go_wp2
    go_ret
    exact ⟨by rw [HF.out]; first | rfl | (simp only [Bool.true_or, Bool.false_or]; rfl), rfl⟩

end Go.Proofs.Ytfdgmoakobjohaa
