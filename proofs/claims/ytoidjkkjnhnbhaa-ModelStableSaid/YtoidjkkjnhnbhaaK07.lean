/- Parts of the proof, in build order: Made Glb StdM StbR MergeR. -/
import Derived.Test.YtoidjkkjnhnbhaaK03
import Derived.Test.YtoidjkkjnhnbhaaK06
import Derived.Test.YtoidjkkjnhnbhaaK02
import Derived.Test.YtoidjkkjnhnbhaaK05
import Derived.Deep.RegionHeld3
import Derived.StillTailTactics

/- Part Made. -/
namespace Go.Proofs.Ytoidjkkjnhnbhaa
open Go.RowKit Go.Maps
set_option linter.unusedVariables false

def mdK0 : List UInt8 := [112]
def mdL0 : List (List UInt8) := [[98, 108, 111, 99, 107, 113, 117, 111, 116, 101], [100, 105, 118], [104, 49], [104, 50], [104, 114], [108, 105], [111, 108], [112], [112, 114, 101], [116, 97, 98, 108, 101], [117, 108]]
def mdK1 : List UInt8 := [108, 105]
def mdL1 : List (List UInt8) := [[108, 105]]
def mdK2 : List UInt8 := [100, 116]
def mdL2 : List (List UInt8) := [[100, 100], [100, 116]]
def mdK3 : List UInt8 := [100, 100]
def mdL3 : List (List UInt8) := [[100, 100], [100, 116]]
def mdK4 : List UInt8 := [111, 112, 116, 105, 111, 110]
def mdL4 : List (List UInt8) := [[111, 112, 116, 105, 111, 110]]
def mdK5 : List UInt8 := [116, 100]
def mdL5 : List (List UInt8) := [[116, 100], [116, 114]]
def mdK6 : List UInt8 := [116, 114]
def mdL6 : List (List UInt8) := [[116, 114]]
/-- What the map holds. -/
def clG : List UInt8 → Option (List (List UInt8)) := updM (updM (updM (updM (updM (updM (updM (fun _ => none) mdK0 mdL0) mdK1 mdL1) mdK2 mdL2) mdK3 mdL3) mdK4 mdL4) mdK5 mdL5) mdK6 mdL6
theorem clG_eq (o : List UInt8) : clG o = if closedBy o = [] then none else some (closedBy o) := by
  by_cases h : o = mdK6 ∨ o = mdK5 ∨ o = mdK4 ∨ o = mdK3 ∨ o = mdK2 ∨ o = mdK1 ∨ o = mdK0
  · rcases h with rfl | rfl | rfl | rfl | rfl | rfl | rfl <;> decide +kernel
  · simp only [not_or] at h
    obtain ⟨h6, h5, h4, h3, h2, h1, h0⟩ := h
    have hc : closedBy o = [] := by
      unfold closedBy
      unfold mdK0 at h0
      unfold mdK1 at h1
      unfold mdK2 at h2
      unfold mdK3 at h3
      unfold mdK4 at h4
      unfold mdK5 at h5
      unfold mdK6 at h6
      rw [if_neg h0, if_neg h1, if_neg (by rintro (e | e); exact h2 e; exact h3 e), if_neg h4, if_neg h5, if_neg h6]
    rw [if_pos hc]
    unfold clG updM
    rw [if_neg h6, if_neg h5, if_neg h4, if_neg h3, if_neg h2, if_neg h1, if_neg h0]

/-- Block b is the map of what closes what. -/
def Made (w : World) (b : Nat) : Prop := MapL w b 7 clG
theorem Made.below {w w' : World} {b : Nat} (h : Made w b) (hb : Below w.heap.size w w') : Made w' b := MapL.below h hb

set_option maxHeartbeats 4000000 in
set_option maxRecDepth 100000 in
theorem made_any (w : World) : Calls Try.prog 19 #[] w fun e w' => ∃ b, e = .returned (.map (some b)) ∧ Made w' b ∧ Below w.heap.size w w' := by
  have hmm := @run_makeMap Try.prog
  have h0 : MapL (w.alloc (.map #[] 0)) w.heap.size 0 (fun _ => none) := MapL.made w
  have b0 : Below w.heap.size w (w.alloc (.map #[] 0)) := below_new w _
  obtain ⟨w1, e1, h1, r1⟩ := h0.insert (by omega) 39 Try.underlying39 mdL0 #[.string ⟨#[98, 108, 111, 99, 107, 113, 117, 111, 116, 101]⟩, .string ⟨#[100, 105, 118]⟩, .string ⟨#[104, 49]⟩, .string ⟨#[104, 50]⟩, .string ⟨#[104, 114]⟩, .string ⟨#[108, 105]⟩, .string ⟨#[111, 108]⟩, .string ⟨#[112]⟩, .string ⟨#[112, 114, 101]⟩, .string ⟨#[116, 97, 98, 108, 101]⟩, .string ⟨#[117, 108]⟩] 9 rfl ⟨#[112]⟩ (by decide) 11 rfl (w.heap.size + 1) (by simp)
  have b1 : Below w.heap.size w w1 := (b0.alloc b0.size _).grown r1 (by have := b0.size; simp; omega) (fun g hg => by injection hg with hg; omega)
  clear r1
  obtain ⟨w2, e2, h2, r2⟩ := h1.insert (by omega) 39 Try.underlying39 mdL1 #[.string ⟨#[108, 105]⟩] 9 rfl ⟨#[108, 105]⟩ (by decide) 1 rfl _ rfl
  have b2 : Below w.heap.size w w2 := (b1.alloc b1.size _).grown r2 (by have := b1.size; simp; omega) (fun g hg => by injection hg with hg; omega)
  clear r2
  obtain ⟨w3, e3, h3, r3⟩ := h2.insert (by omega) 39 Try.underlying39 mdL2 #[.string ⟨#[100, 100]⟩, .string ⟨#[100, 116]⟩] 9 rfl ⟨#[100, 116]⟩ (by decide) 2 rfl _ rfl
  have b3 : Below w.heap.size w w3 := (b2.alloc b2.size _).grown r3 (by have := b2.size; simp; omega) (fun g hg => by injection hg with hg; omega)
  clear r3
  obtain ⟨w4, e4, h4, r4⟩ := h3.insert (by omega) 39 Try.underlying39 mdL3 #[.string ⟨#[100, 100]⟩, .string ⟨#[100, 116]⟩] 9 rfl ⟨#[100, 100]⟩ (by decide) 2 rfl _ rfl
  have b4 : Below w.heap.size w w4 := (b3.alloc b3.size _).grown r4 (by have := b3.size; simp; omega) (fun g hg => by injection hg with hg; omega)
  clear r4
  obtain ⟨w5, e5, h5, r5⟩ := h4.insert (by omega) 39 Try.underlying39 mdL4 #[.string ⟨#[111, 112, 116, 105, 111, 110]⟩] 9 rfl ⟨#[111, 112, 116, 105, 111, 110]⟩ (by decide) 1 rfl _ rfl
  have b5 : Below w.heap.size w w5 := (b4.alloc b4.size _).grown r5 (by have := b4.size; simp; omega) (fun g hg => by injection hg with hg; omega)
  clear r5
  obtain ⟨w6, e6, h6, r6⟩ := h5.insert (by omega) 39 Try.underlying39 mdL5 #[.string ⟨#[116, 100]⟩, .string ⟨#[116, 114]⟩] 9 rfl ⟨#[116, 100]⟩ (by decide) 2 rfl _ rfl
  have b6 : Below w.heap.size w w6 := (b5.alloc b5.size _).grown r6 (by have := b5.size; simp; omega) (fun g hg => by injection hg with hg; omega)
  clear r6
  obtain ⟨w7, e7, h7, r7⟩ := h6.insert (by omega) 39 Try.underlying39 mdL6 #[.string ⟨#[116, 114]⟩] 9 rfl ⟨#[116, 114]⟩ (by decide) 1 rfl _ rfl
  have b7 : Below w.heap.size w w7 := (b6.alloc b6.size _).grown r7 (by have := b6.size; simp; omega) (fun g hg => by injection hg with hg; omega)
  clear r7
  have H7 := Lib.hid (And.intro h7 b7)
  clear h0 h1 h2 h3 h4 h5 h6 h7 b0 b1 b2 b3 b4 b5 b6 b7
  go_enter Try.func19, Try.ntmps19
  go_wp2_with fail
  go_ret
  exact ⟨_, rfl, H7.out.1, H7.out.2⟩

end Go.Proofs.Ytoidjkkjnhnbhaa

/- Part Glb. -/
namespace Go.Proofs.Ytoidjkkjnhnbhaa
open Go.RowKit
set_option linter.unusedVariables false

/-- The library's variable holds some number. -/
def Glob (w : World) : Prop := ∃ m, w.cell? ⟨0, 0, none⟩ = some (.int .i64 m)
theorem Glob.below {w w' : World} (h : Glob w) (hb : Below w.heap.size w w') : Glob w' := by
  obtain ⟨m, hm⟩ := h
  refine ⟨m, (hb.cell (p := ⟨0, 0, none⟩) ?_).trans hm⟩
  refine Decidable.byContradiction fun hn => ?_
  have : w.heap[0]? = none := Array.getElem?_eq_none (by have : ¬ 0 < w.heap.size := hn; omega)
  rw [World.cell?, this] at hm
  cases hm

end Go.Proofs.Ytoidjkkjnhnbhaa

/- Part StdM. -/
namespace Go.Proofs.Ytoidjkkjnhnbhaa
set_option linter.unusedVariables false
set_option linter.unusedSimpArgs false

/-- No comment with an end in it. -/
def okC (n : Nd) : Bool := !decide (n.kind = 3) || noEnd n.text.data.toList
mutual
/-- A node, its kids made stable. -/
def stdN : Nd → Nd
  | .mk k nm a t ks => if k = 1 then .mk k nm a t ((mergeB (stdK nm.data.toList ks)).filter (fitsB nm.data.toList)) else .mk k nm a t ks
def stdK (p : List UInt8) : List Nd → List Nd
  | [] => []
  | n :: l => if (fitsB p n && okC n) = true then stdN n :: stdK p l else stdK p l
end
def stdT (l : List Nd) : List Nd := (l.filter okC).map stdN
/-- Nodes made stable. -/
def steadyB (l : List Nd) : List Nd := mergeB (stdT l)
theorem stdK_eq (p : List UInt8) : ∀ l : List Nd, stdK p l = stdT (l.filter (fitsB p))
  | [] => by simp [stdK, stdT]
  | n :: l => by
    have ih := stdK_eq p l
    rw [List.filter_cons]
    cases hf : fitsB p n with
    | false => simp [stdK, hf, ih]
    | true =>
      rw [if_pos rfl]
      cases ho : okC n with
      | false => simp [stdK, hf, ho, ih, stdT]
      | true => simp [stdK, hf, ho, ih, stdT]
theorem stdN_elem {n : Nd} (h : n.kind = 1) : stdN n = .mk n.kind n.name n.attrs n.text ((steadyB (n.kids.filter (fitsB n.name.data.toList))).filter (fitsB n.name.data.toList)) := by
  cases n with
  | mk k nm a t ks =>
    simp only [Nd.kind] at h
    subst h
    unfold steadyB
    rw [← stdK_eq]
    simp [stdN, Nd.kind, Nd.name, Nd.attrs, Nd.text, Nd.kids]
theorem stdN_other {n : Nd} (h : n.kind ≠ 1) : stdN n = n := by
  cases n with
  | mk k nm a t ks =>
    simp only [Nd.kind] at h
    simp [stdN, h]
theorem stdN_kind (n : Nd) : (stdN n).kind = n.kind := by
  by_cases h : n.kind = 1
  · rw [stdN_elem h]; rfl
  · rw [stdN_other h]
theorem stdN_name (n : Nd) : (stdN n).name = n.name := by
  by_cases h : n.kind = 1
  · rw [stdN_elem h]; rfl
  · rw [stdN_other h]
theorem stdN_text (n : Nd) : (stdN n).text = n.text := by
  by_cases h : n.kind = 1
  · rw [stdN_elem h]; rfl
  · rw [stdN_other h]
theorem fits_same {p : List UInt8} {a b : Nd} (h1 : a.kind = b.kind) (h2 : a.name = b.name) (h3 : a.text = b.text) : fitsB p a = fitsB p b := by
  unfold fitsB
  rw [h1, h2, h3]
theorem stdN_fits (p : List UInt8) (n : Nd) : fitsB p (stdN n) = fitsB p n := fits_same (stdN_kind n) (stdN_name n) (stdN_text n)

theorem szL_filter (p : Nd → Bool) : ∀ l : List Nd, szL (l.filter p) ≤ szL l
  | [] => by simp
  | n :: l => by
    have := szL_filter p l
    rw [List.filter_cons]
    split
    · rw [szL_cons, szL_cons]; omega
    · rw [szL_cons]; omega
/-- Induction on what nodes weigh. -/
theorem sz_ind {P : List Nd → Prop} (h : ∀ l, (∀ m, szL m < szL l → P m) → P l) : ∀ l, P l := by
  have key : ∀ n l, szL l < n → P l := by
    intro n
    induction n with
    | zero => intro l hl; omega
    | succ n ih => intro l hl; exact h l fun m hm => ih m (by omega)
  exact fun l => key (szL l + 1) l (by omega)
theorem mem_sz {l : List Nd} {n : Nd} (h : n ∈ l) : szN n ≤ szL l := by
  obtain ⟨i, hi, he⟩ := List.mem_iff_getElem.1 h
  exact szL_at (List.getElem?_eq_some_iff.2 ⟨hi, he⟩)

theorem steady_sz : ∀ l : List Nd, szL (steadyB l) ≤ szL l := by
  refine sz_ind fun l ih => ?_
  refine Nat.le_trans (merge_sz _) ?_
  unfold stdT
  have key : ∀ m : List Nd, (∀ x ∈ m, szN (stdN x) ≤ szN x) → szL (m.map stdN) ≤ szL m := by
    intro m
    induction m with
    | nil => intro _; simp
    | cons x m ihm =>
      intro h
      rw [List.map_cons, szL_cons, szL_cons]
      have := h x (by simp)
      have := ihm fun y hy => h y (by simp [hy])
      omega
  refine Nat.le_trans (key _ fun x hx => ?_) (szL_filter _ _)
  by_cases h1 : x.kind = 1
  · rw [stdN_elem h1, szN_mk, szN_eq x]
    have hx' := mem_sz (List.mem_filter.1 hx).1
    have h2 := szL_filter (fitsB x.name.data.toList) x.kids
    rw [szN_eq] at hx'
    have h3 := ih (x.kids.filter (fitsB x.name.data.toList)) (by omega)
    have h4 := szL_filter (fitsB x.name.data.toList) (steadyB (x.kids.filter (fitsB x.name.data.toList)))
    omega
  · rw [stdN_other h1]
    exact Nat.le_refl _

theorem foldl_all {p : List UInt8} (hr : rawB p = false) : ∀ (l out : List Nd), out.all (fitsB p) = true → l.all (fitsB p) = true → (l.foldl mstep out).all (fitsB p) = true
  | [], out, h, _ => h
  | n :: l, out, h, hl => by
    rw [List.all_cons, Bool.and_eq_true] at hl
    rw [List.foldl_cons]
    exact foldl_all hr l _ (mstep_fits hr h hl.1) hl.2
theorem foldl_kind2 : ∀ (l out : List Nd), (∀ x ∈ out, x.kind = 2) → (∀ x ∈ l, x.kind = 2) → ∀ x ∈ l.foldl mstep out, x.kind = 2
  | [], out, h, _ => h
  | n :: l, out, h, hl => by
    rw [List.foldl_cons]
    refine foldl_kind2 l _ ?_ (fun x hx => hl x (by simp [hx]))
    intro x hx
    unfold mstep at hx
    split at hx
    · exact h x hx
    · split at hx
      · rename_i h2
        have hne : 0 < out.length := by
          rcases Nat.eq_zero_or_pos out.length with h0 | h0
          · have := List.eq_nil_of_length_eq_zero h0
            subst this
            cases h2.2
          · exact h0
        obtain ⟨m, y, rfl⟩ := snoc_of hne
        rw [mglue_snoc] at hx
        rcases List.mem_append.1 hx with hx | hx
        · exact h x (by simp [hx])
        · simp only [List.mem_singleton] at hx
          subst hx
          exact h y (by simp)
      · rcases List.mem_append.1 hx with hx | hx
        · exact h x hx
        · simp only [List.mem_singleton] at hx
          subst hx
          exact hl x (by simp)
theorem foldl_st : ∀ (l out : List Nd), stL out = true → (∀ x ∈ l, stN x = true) → stL (l.foldl mstep out) = true
  | [], out, h, _ => h
  | n :: l, out, h, hl => by
    rw [List.foldl_cons]
    exact foldl_st l _ (mstep_st h (hl n (by simp))) (fun x hx => hl x (by simp [hx]))
theorem good_filter_one {p : Nd → Bool} {l : List Nd} (h : GoodL l) (h1 : l = [] ∨ ∃ n, l = [n]) : GoodL (l.filter p) := by
  rcases h1 with rfl | ⟨n, rfl⟩
  · exact h
  · rw [List.filter_cons]
    split
    · exact h
    · exact GoodL.nil
theorem st_filter {p : Nd → Bool} {l : List Nd} (h : stL l = true) : stL (l.filter p) = true := by
  rw [stL_all, List.all_eq_true] at h ⊢
  exact fun x hx => h x (List.mem_filter.1 hx).1

/-- Nodes that may be but for what stands side by side, made stable, are stable. -/
theorem steady_pre : ∀ l : List Nd, (∀ n ∈ l, nodeOK n) → (∀ n ∈ l, GoodL n.kids) → GoodL (steadyB l) ∧ stL (steadyB l) = true := by
  refine sz_ind fun l ih => ?_
  intro h1 h2
  have hx : ∀ x ∈ stdT l, nodeOK x ∧ GoodL x.kids ∧ stN x = true := by
    intro x hx
    obtain ⟨n, hn, rfl⟩ := List.mem_map.1 hx
    obtain ⟨hn, hok⟩ := List.mem_filter.1 hn
    have hno := h1 n hn
    have hnk := h2 n hn
    by_cases hk : n.kind = 1
    · rw [stdN_elem hk]
      obtain ⟨p, hp⟩ : ∃ p, n.name.data.toList = p := ⟨_, rfl⟩
      have hz := mem_sz hn
      rw [szN_eq] at hz
      have hzf := szL_filter (fitsB p) n.kids
      have hi := ih (n.kids.filter (fitsB p)) (by omega) (fun m hm => hnk.nodes m (List.mem_filter.1 hm).1) (fun m hm => hnk.kids m (List.mem_filter.1 hm).1)
      rw [hp]
      have hgood : GoodL ((steadyB (n.kids.filter (fitsB p))).filter (fitsB p)) := by
        cases hv : voidB p with
        | true =>
          have : n.kids.filter (fitsB p) = [] := by
            rw [List.filter_eq_nil_iff]
            intro m hm
            unfold fitsB
            rw [hv]
            simp
          rw [this]
          exact GoodL.nil
        | false =>
          cases hr : rawB p with
          | true =>
            have hk2 : ∀ m ∈ steadyB (n.kids.filter (fitsB p)), m.kind = 2 := by
              refine foldl_kind2 _ [] (by simp) ?_
              intro m hm
              obtain ⟨m', hm', rfl⟩ := List.mem_map.1 hm
              have hf := (List.mem_filter.1 (List.mem_filter.1 hm').1).2
              rw [stdN_kind]
              unfold fitsB at hf
              rw [hv, if_neg (by decide), hr, if_pos rfl, Bool.and_eq_true, decide_eq_true_eq] at hf
              exact hf.1
            refine good_filter_one hi.1 ?_
            rcases sides_one hi.1.sides_ hk2 with h | ⟨m, h, _⟩
            · exact .inl h
            · exact .inr ⟨m, h⟩
          | false =>
            have hall : (steadyB (n.kids.filter (fitsB p))).all (fitsB p) = true := by
              refine foldl_all hr _ [] rfl ?_
              rw [List.all_eq_true]
              intro m hm
              obtain ⟨m', hm', rfl⟩ := List.mem_map.1 hm
              rw [stdN_fits]
              exact (List.mem_filter.1 (List.mem_filter.1 hm').1).2
            rw [List.filter_eq_self.2 (fun m hm => List.all_eq_true.1 hall m hm)]
            exact hi.1
      refine ⟨?_, hgood, ?_⟩
      · rcases hno with ⟨a1, a2, a3, a4⟩ | ⟨a1, _⟩
        · exact .inl ⟨a1, a2, a3, a4⟩
        · omega
      · rw [stN_eq]
        show ((!decide (n.kind = 3) || _) && ((steadyB (n.kids.filter (fitsB p))).filter (fitsB p)).all (fitsB n.name.data.toList) && stL ((steadyB (n.kids.filter (fitsB p))).filter (fitsB p))) = true
        rw [hk, hp, st_filter hi.2]
        have : ((steadyB (n.kids.filter (fitsB p))).filter (fitsB p)).all (fitsB p) = true := by
          rw [List.all_eq_true]
          exact fun m hm => (List.mem_filter.1 hm).2
        rw [this]
        rfl
    · rw [stdN_other hk]
      refine ⟨hno, hnk, ?_⟩
      rcases hno with ⟨a1, _⟩ | ⟨_, _, _, hkids, _⟩
      · exact absurd a1 hk
      · rw [stN_eq, hkids, stL_nil]
        unfold okC at hok
        rw [hok]
        rfl
  refine ⟨merge_good ⟨fun x hx' => (hx x hx').1, fun x hx' => (hx x hx').2.1⟩, foldl_st _ [] stL_nil fun x hx' => (hx x hx').2.2⟩
theorem steady_good {l : List Nd} (h : GoodL l) : GoodL (steadyB l) ∧ stL (steadyB l) = true := steady_pre l h.nodes h.kids

end Go.Proofs.Ytoidjkkjnhnbhaa

/- Part StbR. -/
namespace Go.Proofs.Ytoidjkkjnhnbhaa
open Go.RowKit
set_option linter.unusedVariables false

structure HsAt (w wr : World) (l : List UInt8) (i : Nat) : Prop where
  le : i ≤ l.length
  no : ∀ j, j < i → (l.drop j).take 3 ≠ [45, 45, 62]
  bel : wr = w
def HsRel (w : World) (l : List UInt8) (x : Value) (wr : World) : Prop := ∃ i : Nat, x = .int .i64 i ∧ HsAt w wr l i

set_option maxHeartbeats 1000000 in
set_option maxRecDepth 100000 in
theorem hasR_any (s : ByteArray) (w : World) (hm : s.size ≤ 400000) :
    Calls Try.prog 39 #[.string s, .string ⟨#[45, 45, 62]⟩] w fun e w' => e = .returned (.bool (!noEnd s.data.toList)) ∧ w = w' := by
  obtain ⟨l, hl⟩ : ∃ l, s.data.toList = l := ⟨_, rfl⟩
  have hss : s.size = l.length := by rw [← hl]; simp
  have HSS := Lib.hid hss
  have HL := Lib.hid hl
  have HW := Lib.hid (has_noEnd l)
  rw [hl]
  clear hl hss
  go_enter Try.func39, Try.ntmps39
  go_wp2_with fail
  go_loopw [5] (fun x wr => HsRel w l x wr) (fun x _ => s.size - (intOf x).toNat)
  case atStart => exact ⟨0, rfl, ⟨by omega, fun j hj => by omega, rfl⟩⟩
  case round =>
    obtain ⟨i, rfl, HR⟩ := hrel
    obtain ⟨hi, hno, rfl⟩ := HR
    have hil : i ≤ s.size := by have := HSS.out; omega
    obtain ⟨m, hmm⟩ : ∃ m : Nat, m = i + 3 := ⟨_, rfl⟩
    have e1 : (i : Int) + 3 = (m : Int) := by omega
    have HNO := Lib.hid hno
    have HMM := Lib.hid hmm
    clear hno
    by_cases hlt : m ≤ s.size
    · have f1 : (0 : Int) ≤ (i : Int) ∧ (i : Int) ≤ (m : Int) ∧ (m : Int) ≤ (s.size : Int) := by omega
      obtain ⟨f1, f2, f3⟩ := f1
      have hmid : (s.extract i m).data.toList = (l.drop i).take 3 := by
        rw [mid_extract, HL.out]
        congr 1
        omega
      have hq := eqs (s.extract i m) [45, 45, 62]
      rw [hmid] at hq
      have hi4 : i + 1 ≤ l.length := by have := HSS.out; omega
      clear hmid hmm
      by_cases h : (l.drop i).take 3 = [45, 45, 62]
      · rw [decide_eq_true h] at hq
        have HF := Lib.hid (show (!noEnd l) = true by rw [← HW.out]; exact hasB_at (w := [45, 45, 62]) (by decide) h)
        clear h
        go_wp2_with fail
        go_ret
        rw [HF.out]
        exact ⟨rfl, rfl⟩
      · rw [decide_eq_false h] at hq
        have HF := Lib.hid h
        clear h
        go_wp2_with fail
        go_roundw
        case rel => exact ⟨i + 1, by go_num, hi4, fun j hj => by
          rcases Nat.lt_or_ge j i with h | h
          · exact HNO.out j h
          · rw [show j = i by omega]; exact HF.out, rfl⟩
        case measure => simp [intOf]; omega
    · have HF := Lib.hid (show (!noEnd l) = false by
        rw [← HW.out]
        refine hasB_no (w := [45, 45, 62]) (by decide) fun j hj => ?_
        refine HNO.out j ?_
        have := HSS.out
        have : j + 3 ≤ l.length := hj
        omega)
      have hex : ¬ (m : Int) ≤ (s.size : Int) := by omega
      clear hmm
      go_wp2_with fail
      go_ret
      rw [HF.out]
      exact ⟨rfl, rfl⟩

theorem raw_named {l : List UInt8} (h : rawB l = true) : ∀ x ∈ l, namC x = true := by
  unfold rawB at h
  rw [Bool.or_eq_true, decide_eq_true_eq, decide_eq_true_eq] at h
  rcases h with rfl | rfl <;> decide

theorem box_below5 {W W' : World} {k : Nat} {cs : Array Value} {t : TypeId} (h : W.heap[k]? = some (.cells cs t (0, 0))) (hb : Below W.heap.size W W') : W'.heap[k]? = some (.cells cs t (0, 0)) :=
  (hb.block k (Array.getElem?_eq_some_iff.1 h).1).trans h

set_option maxHeartbeats 2000000 in
set_option maxRecDepth 100000 in
theorem fitsR_any (p : ByteArray) (n : Nd) (va vk : Value) (w : World) (hva : ∃ A c, va = .slice A n.attrs.length c) (hvk : ∃ A c, vk = .slice A n.kids.length c) (hp : p.size ≤ 100000) (ht : n.text.size ≤ 100000) :
    Calls Try.prog 45 #[.string p, .agg #[.int .i64 n.kind, .string n.name, va, .string n.text, vk]] w fun e w' => e = .returned (.bool (fitsB p.data.toList n)) ∧ Below w.heap.size w w' := by
  obtain ⟨A1, c1, rfl⟩ := hva
  obtain ⟨A2, c2, rfl⟩ := hvk
  have hbx := box_here w #[.int .i64 n.kind, .string n.name, .slice A1 n.attrs.length c1, .string n.text, .slice A2 n.kids.length c2] 32
  have hnb := below_new w (.cells #[.int .i64 n.kind, .string n.name, .slice A1 n.attrs.length c1, .string n.text, .slice A2 n.kids.length c2] 32)
  have HBX := Lib.hid (And.intro hbx hnb)
  have HV := Lib.hid (fun W => voidR_any p W)
  have HRW := Lib.hid (fun W => rawR_any p W)
  have hfit : fitsB p.data.toList n = (if voidB p.data.toList = true then false else if rawB p.data.toList = true then decide (n.kind = 2) && rawOK p.data.toList n.text.data.toList else !decide (n.kind = 1) || !closesB p.data.toList n.name.data.toList) := rfl
  obtain ⟨v, hv⟩ : ∃ v, voidB p.data.toList = v := ⟨_, rfl⟩
  obtain ⟨r, hr⟩ : ∃ r, rawB p.data.toList = r := ⟨_, rfl⟩
  rw [hv] at hfit HV
  rw [hr] at hfit HRW
  have HR0 := Lib.hid hr
  have HFIT := Lib.hid hfit
  clear hbx hnb hfit hv hr
  cases v with
  | true =>
    have HK := Lib.hid (show fitsB p.data.toList n = false by rw [HFIT.out]; rfl)
    go_enter Try.func45, Try.ntmps45
    go_wp2_with fail
    refine (HV.out _).mono ?_
    rintro e w1 ⟨rfl, rfl⟩
    go_wp2_with fail
    refine (HRW.out _).mono ?_
    rintro e w1 ⟨rfl, rfl⟩
    go_wp2_with fail
    go_ret
    rw [HK.out]
    exact ⟨rfl, HBX.out.2⟩
  | false =>
    cases r with
    | true =>
      by_cases h2 : n.kind = 2
      · have B2 : (n.kind == 2) = true := by simp [h2]
        have HK := Lib.hid (show fitsB p.data.toList n = rawOK p.data.toList n.text.data.toList by rw [HFIT.out, if_neg (by decide), if_pos rfl, h2]; simp)
        clear h2
        obtain ⟨T, hT⟩ : ∃ T : ByteArray, ((n.text ++ (⟨#[60, 47]⟩ : ByteArray)) ++ p) ++ (⟨#[62]⟩ : ByteArray) = T := ⟨_, rfl⟩
        have hTl : T.data.toList = n.text.data.toList ++ (60 :: 47 :: (p.data.toList ++ [62])) := by rw [← hT]; simp
        have hTz : T.size = n.text.size + p.size + 3 := by
          have h1 := congrArg List.length hTl
          have h2 : T.data.toList.length = T.size := by simp
          have h3 : n.text.data.toList.length = n.text.size := by simp
          have h4 : p.data.toList.length = p.size := by simp
          simp only [List.length_append, List.length_cons, List.length_nil] at h1
          omega
        have hen := ends_raw (nm := p.data.toList) (t := n.text.data.toList) (raw_named HR0.out)
        rw [← hTl] at hen
        have htz : n.text.data.toList.length = n.text.size := by simp
        rw [htz] at hen
        have HEN := Lib.hid hen
        have HED := Lib.hid (fun W => endsR_any T p W (by omega) (by omega))
        obtain ⟨E, hE⟩ : ∃ E, endsI p.data.toList T.data.toList = E := ⟨_, rfl⟩
        rw [hE] at HED HEN
        rw [← hT] at HED
        have hEq : (E == (n.text.size : Int)) = rawOK p.data.toList n.text.data.toList := by
          have := HEN.out
          cases hro : rawOK p.data.toList n.text.data.toList with
          | true => rw [beq_iff_eq]; exact this.2 hro
          | false =>
            rw [beq_eq_false_iff_ne]
            intro e
            have := this.1 e
            rw [hro] at this
            cases this
        obtain ⟨R, hR⟩ : ∃ R, rawOK p.data.toList n.text.data.toList = R := ⟨_, rfl⟩
        rw [hR] at hEq HK
        have HBE := Lib.hid hEq
        have SK := Lib.hid (fun (W : World) (h : Below (w.alloc (.cells #[.int .i64 n.kind, .string n.name, .slice A1 n.attrs.length c1, .string n.text, .slice A2 n.kids.length c2] 32)).heap.size (w.alloc (.cells #[.int .i64 n.kind, .string n.name, .slice A1 n.attrs.length c1, .string n.text, .slice A2 n.kids.length c2] 32)) W) =>
          (⟨(cell_at (box_below5 HBX.out.1 h) 0), (cell_at (box_below5 HBX.out.1 h) 3)⟩ : W.cell? ⟨w.heap.size, 0, none⟩ = some (.int .i64 n.kind) ∧ W.cell? ⟨w.heap.size, 3, none⟩ = some (.string n.text)))
        have z1 : ¬ (9223372036854775807 < n.text.size + (⟨#[60, 47]⟩ : ByteArray).size) := by show ¬ (_ < n.text.size + 2); omega
        have z2 : ¬ (9223372036854775807 < (n.text ++ (⟨#[60, 47]⟩ : ByteArray)).size + p.size) := by rw [ByteArray.size_append]; show ¬ (_ < n.text.size + 2 + p.size); omega
        have z3 : ¬ (9223372036854775807 < ((n.text ++ (⟨#[60, 47]⟩ : ByteArray)) ++ p).size + (⟨#[62]⟩ : ByteArray).size) := by rw [ByteArray.size_append, ByteArray.size_append]; show ¬ (_ < n.text.size + 2 + p.size + 1); omega
        have y1 : ¬ (9223372036854775807 < n.text.size + 2) := by omega
        have y2 : ¬ (9223372036854775807 < n.text.size + 2 + p.size) := by omega
        have y3 : ¬ (9223372036854775807 < n.text.size + 2 + p.size + 1) := by omega
        clear hT hTl hTz hen htz hE hEq hR
        go_enter Try.func45, Try.ntmps45
        go_wp2_with fail
        refine (HV.out _).mono ?_
        rintro e w1 ⟨rfl, rfl⟩
        go_wp2_with fail
        refine (HRW.out _).mono ?_
        rintro e w1 ⟨rfl, rfl⟩
        go_wp2_with fail
        go_region_held3 (fun W => W.cell? ⟨w.heap.size, 0, none⟩ = some (.int .i64 n.kind) ∧ W.cell? ⟨w.heap.size, 3, none⟩ = some (.string n.text))
          (first
            | exact SK.out _ (Below.refl _ _)
            | exact SK.out _ (Below.refl _ _).drew
            | exact SK.out _ ((Below.refl _ _).drew.trans hb3)
            | exact SK.out _ hb3)
          (first
            | (go_at_call 67; refine Calls.mono (HED.out _) ?_; rintro e w3 ⟨rfl, hb3⟩))
        go_wp2_with fail
        go_ret
        refine ⟨?_, below_after HBX.out.2.drew hb3⟩
        rw [HK.out, ← HBE.out]
        rfl
      · have B2 : (n.kind == 2) = false := by simp [h2]
        have HK := Lib.hid (show fitsB p.data.toList n = false by rw [HFIT.out, if_neg (by decide), if_pos rfl, decide_eq_false h2]; rfl)
        have c0 := cell_at HBX.out.1 0
        have hb0 := HBX.out.2
        clear h2
        go_enter Try.func45, Try.ntmps45
        go_wp2_with fail
        refine (HV.out _).mono ?_
        rintro e w1 ⟨rfl, rfl⟩
        go_wp2_with fail
        refine (HRW.out _).mono ?_
        rintro e w1 ⟨rfl, rfl⟩
        go_wp2_with fail
        go_quiet (fail)
        go_wp2_with fail
        go_ret
        rw [HK.out]
        exact ⟨rfl, dN_below hb0 _⟩
    | false =>
      obtain ⟨q, hq⟩ : ∃ q, closesB p.data.toList n.name.data.toList = q := ⟨_, rfl⟩
      have HC := Lib.hid (fun W => closesR_any p n.name W)
      rw [hq] at HC
      by_cases h1 : n.kind = 1
      · have B1 : (n.kind != 1) = false := by simp [h1]
        have HK := Lib.hid (show fitsB p.data.toList n = !q by rw [HFIT.out, if_neg (by decide), if_neg (by decide), h1, hq]; simp)
        clear h1 hq
        go_enter Try.func45, Try.ntmps45
        go_wp2_with fail
        refine (HV.out _).mono ?_
        rintro e w1 ⟨rfl, rfl⟩
        go_wp2_with fail
        refine (HRW.out _).mono ?_
        rintro e w1 ⟨rfl, rfl⟩
        go_wp2_with fail
        refine (HC.out _).mono ?_
        rintro e w3 ⟨rfl, hb3⟩
        have hbx := box_below5 HBX.out.1 hb3
        have d0 := cell_at hbx 0
        have hb := below_after HBX.out.2 hb3
        clear hb3 hbx
        go_wp2_with fail
        go_ret
        rw [HK.out]
        exact ⟨rfl, hb⟩
      · have B1 : (n.kind != 1) = true := by simp [h1]
        have HK := Lib.hid (show fitsB p.data.toList n = true by rw [HFIT.out, if_neg (by decide), if_neg (by decide), decide_eq_false h1]; rfl)
        clear h1 hq
        go_enter Try.func45, Try.ntmps45
        go_wp2_with fail
        refine (HV.out _).mono ?_
        rintro e w1 ⟨rfl, rfl⟩
        go_wp2_with fail
        refine (HRW.out _).mono ?_
        rintro e w1 ⟨rfl, rfl⟩
        go_wp2_with fail
        refine (HC.out _).mono ?_
        rintro e w3 ⟨rfl, hb3⟩
        have hbx := box_below5 HBX.out.1 hb3
        have d0 := cell_at hbx 0
        have hb := below_after HBX.out.2 hb3
        clear hb3 hbx
        go_wp2_with fail
        go_ret
        rw [HK.out]
        exact ⟨rfl, hb⟩

structure AlAt (w wr : World) (l : List Nd) (i : Nat) : Prop where
  le : i ≤ l.length
  ok : stL (l.take i) = true
  bel : Below w.heap.size w wr
def AlRel (w : World) (l : List Nd) (x : Value) (wr : World) : Prop := ∃ i : Nat, x = .int .i64 i ∧ AlAt w wr l i
structure KdAt (w wr : World) (p : List UInt8) (l : List Nd) (i : Nat) : Prop where
  le : i ≤ l.length
  ok : (l.take i).all (fitsB p) = true
  bel : Below w.heap.size w wr
def KdRel (w : World) (p : List UInt8) (l : List Nd) (x : Value) (wr : World) : Prop := ∃ i : Nat, x = .int .i64 i ∧ KdAt w wr p l i

theorem stL_not {l : List Nd} {i : Nat} {n : Nd} (h : l[i]? = some n) (hn : stN n = false) : stL l = false := by
  rw [stL_all, List.all_eq_false]
  exact ⟨n, List.mem_of_getElem? h, by rw [hn]; decide⟩
theorem stL_snoc {l : List Nd} {i : Nat} {n : Nd} (h : l[i]? = some n) (hl : stL (l.take i) = true) (hn : stN n = true) : stL (l.take (i + 1)) = true := by
  rw [List.take_add_one, h, stL_append, hl]
  show (true && stL [n]) = true
  rw [stL_cons, stL_nil, hn]
  rfl

set_option maxHeartbeats 4000000 in
set_option maxRecDepth 100000 in
theorem allR_any (l : List Nd) : ∀ (S : Nat → Prop) (v : Value) (w : World), Tree S w l v → (∀ b, S b → b < w.heap.size) → szL l ≤ 100000 →
    Calls Try.prog 27 #[v] w fun e w' => e = .returned (.bool (stL l)) ∧ Below w.heap.size w w' := by
  induction l using nd_ind with
  | h l ih =>
  intro S v w hT hS hsz
  have hlen := szL_len l
  obtain ⟨A, c, rfl, hc⟩ := hT.shape
  have HT := Lib.hid hT
  have HIH := Lib.hid ih
  clear hT ih
  go_enter Try.func27, Try.ntmps27
  go_wp2_with fail
  go_loopw [3, 4, 5, 6] (fun x _ _ _ wr => AlRel w l x wr) (fun x _ _ _ _ => l.length - (intOf x).toNat)
  case atStart => exact ⟨0, rfl, ⟨by omega, by rw [List.take_zero, stL_nil], Below.refl _ _⟩⟩
  case round =>
    obtain ⟨i, rfl, HR⟩ := hrel
    obtain ⟨hi, hok, hbr⟩ := HR
    have HOK := Lib.hid hok
    clear hok
    by_cases hlt : i < l.length
    · obtain ⟨b, o, c', hv, _, hSb, hcell⟩ := HT.out.open_ (by omega)
      injection hv with hA _ hcc
      subst hA
      subst hcc
      obtain ⟨m, hm⟩ : ∃ m, l[i]? = some m := ⟨_, List.getElem?_eq_getElem hlt⟩
      obtain ⟨ma, mk, hmt⟩ := hcell i m hm
      have hb := hS b hSb
      obtain ⟨A3, c3, rfl, _, _⟩ := id hmt.at_
      obtain ⟨A4, c4, rfl, _⟩ := hmt.kids.shape
      have q0 : wr.cell? ⟨b, o + i * 5, none⟩ = some (.int .i64 m.kind) := (hbr.cell (p := ⟨b, o + i * 5, none⟩) hb).trans hmt.c0
      have q1 : wr.cell? ⟨b, o + i * 5 + 1, none⟩ = some (.string m.name) := (hbr.cell (p := ⟨b, o + i * 5 + 1, none⟩) hb).trans hmt.c1
      have q3 : wr.cell? ⟨b, o + i * 5 + 3, none⟩ = some (.string m.text) := (hbr.cell (p := ⟨b, o + i * 5 + 3, none⟩) hb).trans hmt.c3
      have q4 : wr.cell? ⟨b, o + i * 5 + 4, none⟩ = some (.slice A4 m.kids.length c4) := (hbr.cell (p := ⟨b, o + i * 5 + 4, none⟩) hb).trans hmt.c4
      have hzm := szL_at hm
      have hzk := szL_kids hm
      rw [szN_eq] at hzm
      have hkl := szL_len m.kids
      have i1 : (i : Int) < (l.length : Int) := by omega
      have i2 : (0 : Int) ≤ (i : Int) := by omega
      have hi4 : i + 1 ≤ l.length := hlt
      have HM := Lib.hid hm
      have HSTN := Lib.hid (stN_eq m)
      have HMT := Lib.hid hmt
      have HHS := Lib.hid (fun W => hasR_any m.text W (by omega))
      have HKA := Lib.hid (fun (W : World) (hW : Below w.heap.size w W) => HIH.out i m hm S (.slice A4 m.kids.length c4) W (hmt.kids.keep (Kept.belowB hW hS)) (fun b h => Nat.lt_of_lt_of_le (hS b h) hW.size) (by omega))
      obtain ⟨ne, hne⟩ : ∃ q, noEnd m.text.data.toList = q := ⟨_, rfl⟩
      obtain ⟨sk, hsk⟩ : ∃ q, stL m.kids = q := ⟨_, rfl⟩
      rw [hne] at HSTN HHS
      rw [hsk] at HSTN HKA
      clear hcell hm hmt hne hsk
      have hways : (m.kind = 3 ∧ ne = false) ∨ (m.kind = 3 ∧ ne = true) ∨ (m.kind ≠ 3) := by
        by_cases h : m.kind = 3
        · cases ne
          · exact .inl ⟨h, rfl⟩
          · exact .inr (.inl ⟨h, rfl⟩)
        · exact .inr (.inr h)
      rcases hways with ⟨h3, rfl⟩ | hgo
      · have B3 : (m.kind == 3) = true := by simp [h3]
        have HF := Lib.hid (stL_not HM.out (show stN m = false by rw [HSTN.out, h3]; rfl))
        clear h3
        go_wp2_with fail
        refine (HHS.out _).mono ?_
        rintro e w3 ⟨rfl, rfl⟩
        go_wp2_with fail
        go_ret
        rw [HF.out]
        exact ⟨rfl, hbr⟩
      · have HG := Lib.hid (show (!decide (m.kind = 3) || ne) = true by rcases hgo with ⟨h, rfl⟩ | h; rw [h]; rfl; simp [h])
        rcases hgo with ⟨h3, rfl⟩ | h3
        case' inl => have B3 : (m.kind == 3) = true := by simp [h3]
        case' inr => have B3 : (m.kind == 3) = false := by simp [h3]
        all_goals
          clear h3
          go_wp2_with (go_at_call 39; refine (HHS.out _).mono ?_; rintro e w3 ⟨rfl, rfl⟩)
          obtain ⟨wo, rfl⟩ : ∃ wo : World, wo = wr := ⟨_, rfl⟩
          go_loopw [4, 5] (fun x _ wx => KdRel w m.name.data.toList m.kids x wx) (fun x _ _ => m.kids.length - (intOf x).toNat)
          case atStart => exact ⟨0, rfl, ⟨by omega, by simp, hbr⟩⟩
          case round =>
            obtain ⟨j, rfl, HR2⟩ := hrel
            obtain ⟨hj, hok2, hbx⟩ := HR2
            have HOK2 := Lib.hid hok2
            clear hok2 q0 q1 q3 q4
            have s1 : wr.cell? ⟨b, o + i * 5 + 1, none⟩ = some (.string m.name) := (hbx.cell (p := ⟨b, o + i * 5 + 1, none⟩) hb).trans HMT.out.c1
            have s4 : wr.cell? ⟨b, o + i * 5 + 4, none⟩ = some (.slice A4 m.kids.length c4) := (hbx.cell (p := ⟨b, o + i * 5 + 4, none⟩) hb).trans HMT.out.c4
            by_cases hlj : j < m.kids.length
            · obtain ⟨d, u, c'', hv2, _, hSd, hcell2⟩ := HMT.out.kids.open_ (by omega)
              injection hv2 with hA2 _ hcc2
              subst hA2
              subst hcc2
              obtain ⟨x, hx⟩ : ∃ x, m.kids[j]? = some x := ⟨_, List.getElem?_eq_getElem hlj⟩
              obtain ⟨xa, xk, hxt⟩ := hcell2 j x hx
              have hd := hS d hSd
              obtain ⟨A5, c5, rfl, _, _⟩ := id hxt.at_
              obtain ⟨A6, c6, rfl, _⟩ := hxt.kids.shape
              have p0 : wr.cell? ⟨d, u + j * 5, none⟩ = some (.int .i64 x.kind) := (hbx.cell (p := ⟨d, u + j * 5, none⟩) hd).trans hxt.c0
              have p1 : wr.cell? ⟨d, u + j * 5 + 1, none⟩ = some (.string x.name) := (hbx.cell (p := ⟨d, u + j * 5 + 1, none⟩) hd).trans hxt.c1
              have p2 : wr.cell? ⟨d, u + j * 5 + 2, none⟩ = some (.slice A5 x.attrs.length c5) := (hbx.cell (p := ⟨d, u + j * 5 + 2, none⟩) hd).trans hxt.c2
              have p3 : wr.cell? ⟨d, u + j * 5 + 3, none⟩ = some (.string x.text) := (hbx.cell (p := ⟨d, u + j * 5 + 3, none⟩) hd).trans hxt.c3
              have p4 : wr.cell? ⟨d, u + j * 5 + 4, none⟩ = some (.slice A6 x.kids.length c6) := (hbx.cell (p := ⟨d, u + j * 5 + 4, none⟩) hd).trans hxt.c4
              have hzx := szL_at hx
              rw [szN_eq] at hzx
              have i3 : (j : Int) < (m.kids.length : Int) := by omega
              have i4 : (0 : Int) ≤ (j : Int) := by omega
              have hj4 : j + 1 ≤ m.kids.length := hlj
              have HX := Lib.hid hx
              have HFT := Lib.hid (fun W => fitsR_any m.name x (.slice A5 x.attrs.length c5) (.slice A6 x.kids.length c6) W ⟨_, _, rfl⟩ ⟨_, _, rfl⟩ (by omega) (by omega))
              obtain ⟨ft, hft⟩ : ∃ q, fitsB m.name.data.toList x = q := ⟨_, rfl⟩
              rw [hft] at HFT
              have HFQ := Lib.hid hft
              have SK := Lib.hid (fun (W : World) (h : Below wr.heap.size wr W) => (⟨(h.cell (p := ⟨b, o + i * 5 + 1, none⟩) (Nat.lt_of_lt_of_le hb hbx.size)).trans s1, (h.cell (p := ⟨b, o + i * 5 + 4, none⟩) (Nat.lt_of_lt_of_le hb hbx.size)).trans s4,
                (h.cell (p := ⟨d, u + j * 5, none⟩) (Nat.lt_of_lt_of_le hd hbx.size)).trans p0, (h.cell (p := ⟨d, u + j * 5 + 1, none⟩) (Nat.lt_of_lt_of_le hd hbx.size)).trans p1, (h.cell (p := ⟨d, u + j * 5 + 2, none⟩) (Nat.lt_of_lt_of_le hd hbx.size)).trans p2,
                (h.cell (p := ⟨d, u + j * 5 + 3, none⟩) (Nat.lt_of_lt_of_le hd hbx.size)).trans p3, (h.cell (p := ⟨d, u + j * 5 + 4, none⟩) (Nat.lt_of_lt_of_le hd hbx.size)).trans p4⟩ :
                W.cell? ⟨b, o + i * 5 + 1, none⟩ = some (.string m.name) ∧ W.cell? ⟨b, o + i * 5 + 4, none⟩ = some (.slice (some ⟨d, u, none⟩) m.kids.length c4) ∧ W.cell? ⟨d, u + j * 5, none⟩ = some (.int .i64 x.kind) ∧ W.cell? ⟨d, u + j * 5 + 1, none⟩ = some (.string x.name) ∧
                W.cell? ⟨d, u + j * 5 + 2, none⟩ = some (.slice A5 x.attrs.length c5) ∧ W.cell? ⟨d, u + j * 5 + 3, none⟩ = some (.string x.text) ∧ W.cell? ⟨d, u + j * 5 + 4, none⟩ = some (.slice A6 x.kids.length c6)))
              clear hcell2 hx hxt hft
              go_wp2_with fail
              go_region_held3 (fun W => W.cell? ⟨b, o + i * 5 + 1, none⟩ = some (.string m.name) ∧ W.cell? ⟨b, o + i * 5 + 4, none⟩ = some (.slice (some ⟨d, u, none⟩) m.kids.length c4) ∧ W.cell? ⟨d, u + j * 5, none⟩ = some (.int .i64 x.kind) ∧ W.cell? ⟨d, u + j * 5 + 1, none⟩ = some (.string x.name) ∧
                W.cell? ⟨d, u + j * 5 + 2, none⟩ = some (.slice A5 x.attrs.length c5) ∧ W.cell? ⟨d, u + j * 5 + 3, none⟩ = some (.string x.text) ∧ W.cell? ⟨d, u + j * 5 + 4, none⟩ = some (.slice A6 x.kids.length c6))
                (first
                  | exact SK.out _ (Below.refl _ _)
                  | exact SK.out _ (Below.refl _ _).drew
                  | exact SK.out _ (below_after (Below.refl _ _).drew hb3)
                  | exact SK.out _ hb3)
                (first
                  | (go_at_call 45; refine Calls.mono (HFT.out _) ?_; rintro e w3 ⟨rfl, hb3⟩))
              have hbx3 := below_after hbx.drew hb3
              cases ft with
              | true =>
                go_wp2_with fail
                go_roundw
                case rel => exact ⟨j + 1, by go_num, hj4, by rw [List.take_add_one, HX.out, List.all_append, HOK2.out]; simp [HFQ.out], hbx3⟩
                case measure => simp [intOf]; omega
              | false =>
                have HF := Lib.hid (stL_not HM.out (show stN m = false by
                  rw [HSTN.out]
                  have : m.kids.all (fitsB m.name.data.toList) = false := by rw [List.all_eq_false]; exact ⟨x, List.mem_of_getElem? HX.out, by rw [HFQ.out]; decide⟩
                  rw [this]
                  simp))
                go_wp2_with fail
                go_ret
                rw [HF.out]
                exact ⟨rfl, hbx3⟩
            · have hje : j = m.kids.length := by omega
              have HKK := Lib.hid (show m.kids.all (fitsB m.name.data.toList) = true by have := HOK2.out; rwa [hje, List.take_length] at this)
              have HKC := Lib.hid (HKA.out wr hbx)
              go_wp2_with fail
              refine HKC.out.mono ?_
              rintro e w3 ⟨rfl, hb3⟩
              have hbx3 := below_after hbx hb3
              cases sk with
              | true =>
                have HNT := Lib.hid (show stN m = true by rw [HSTN.out, HG.out, HKK.out]; rfl)
                go_wp2_with fail
                go_roundw
                case rel => exact ⟨i + 1, by go_num, hi4, stL_snoc HM.out HOK.out HNT.out, hbx3⟩
                case measure => simp [intOf]; omega
              | false =>
                have HF := Lib.hid (stL_not HM.out (show stN m = false by rw [HSTN.out]; simp))
                go_wp2_with fail
                go_ret
                rw [HF.out]
                exact ⟨rfl, hbx3⟩
    · have hke : i = l.length := by omega
      have HF := Lib.hid (show stL l = true by have := HOK.out; rwa [hke, List.take_length] at this)
      go_wp2_with fail
      go_ret
      rw [HF.out]
      exact ⟨rfl, hbr⟩

end Go.Proofs.Ytoidjkkjnhnbhaa

/- Part MergeR. -/
namespace Go.Proofs.Ytoidjkkjnhnbhaa
open Go.RowKit
set_option linter.unusedVariables false

theorem szL_take (l : List Nd) (k : Nat) : szL (l.take k) ≤ szL l := by
  have : szL l = szL (l.take k) + szL (l.drop k) := by rw [← szL_append, List.take_append_drop]
  omega
theorem merge_snoc (l : List Nd) (n : Nd) : mergeB (l ++ [n]) = mstep (mergeB l) n := by simp [mergeB]

theorem isEmpty_iff' (s : ByteArray) : (s.toList.isEmpty = true) ↔ s.data.toList = [] := by rw [Lib.toList_data]; simp

structure MergeAt (lo : Nat) (w wr : World) (l : List Nd) (k : Nat) (v : Value) (out : List Nd) : Prop where
  le : k ≤ l.length
  is : mergeB (l.take k) = out
  own : OwnC wr w.heap.size lo out v
  bel : Below w.heap.size w wr

def MergeRel (lo : Nat) (w : World) (l : List Nd) (x y : Value) (wr : World) : Prop := ∃ (k : Nat) (out : List Nd), y = .int .i64 k ∧ MergeAt lo w wr l k x out

set_option maxHeartbeats 2000000 in
set_option maxRecDepth 100000 in
theorem mergeR_any (lo : Nat) (l : List Nd) (v : Value) (w : World) (hT : Tree (fun b => lo ≤ b ∧ b < w.heap.size) w l v) (hsz : szL l ≤ 1000000) :
    Calls Try.prog 38 #[v] w fun e w' => ∃ v', e = .returned v' ∧ OwnC w' w.heap.size lo (mergeB l) v' ∧ Below w.heap.size w w' := by
  have hlen := szL_len l
  obtain ⟨A, c, rfl, hc⟩ := hT.shape
  have HT := Lib.hid hT
  clear hT
  go_enter Try.func38, Try.ntmps38
  go_wp2_with fail
  go_loopw [3, 4] (fun x y wr => MergeRel lo w l x y wr) (fun _ y _ => l.length - (intOf y).toNat)
  case atStart => exact ⟨0, [], rfl, by omega, rfl, OwnC.nil _ _ _, Below.refl _ _⟩
  case round =>
    obtain ⟨k, out, rfl, HR⟩ := hrel
    have hk := HR.le
    have HO := Lib.hid HR.is
    have hown := HR.own
    have hbel := HR.bel
    clear HR
    have hos : szL out ≤ 1000000 := by
      have h1 := merge_sz (l.take k)
      have h2 := szL_take l k
      rw [HO.out] at h1
      omega
    have hol := szL_len out
    by_cases hlt : k < l.length
    · obtain ⟨b, o, c', hv, _, hS, hcell⟩ := HT.out.open_ (by omega)
      injection hv with hA _ hcc
      subst hA
      subst hcc
      obtain ⟨n, hn⟩ : ∃ n, l[k]? = some n := ⟨_, List.getElem?_eq_getElem hlt⟩
      obtain ⟨va, vk, hat⟩ := hcell k n hn
      obtain ⟨A', c'', rfl, hc''⟩ := OwnT.shape hown
      have q0 : wr.cell? ⟨b, o + k * 5, none⟩ = some (.int .i64 n.kind) := (hbel.cell (p := ⟨b, o + k * 5, none⟩) hS.2).trans hat.c0
      have q3 : wr.cell? ⟨b, o + k * 5 + 3, none⟩ = some (.string n.text) := (hbel.cell (p := ⟨b, o + k * 5 + 3, none⟩) hS.2).trans hat.c3
      have q1 : wr.cell? ⟨b, o + k * 5 + 1, none⟩ = some (.string n.name) := (hbel.cell (p := ⟨b, o + k * 5 + 1, none⟩) hS.2).trans hat.c1
      have q2 : wr.cell? ⟨b, o + k * 5 + 2, none⟩ = some va := (hbel.cell (p := ⟨b, o + k * 5 + 2, none⟩) hS.2).trans hat.c2
      have q4 : wr.cell? ⟨b, o + k * 5 + 4, none⟩ = some vk := (hbel.cell (p := ⟨b, o + k * 5 + 4, none⟩) hS.2).trans hat.c4
      have HSN := Lib.hid (show mergeB (l.take (k + 1)) = mstep out n by rw [List.take_add_one, hn, ← HO.out]; exact merge_snoc _ _)
      have hkeep := fun ob => input_kept hbel hown ob
      have HKP := Lib.hid hkeep
      have HAT := Lib.hid hat
      have HN := Lib.hid hn
      have hown2 := fun ob => OwnC.later hown (below_new wr ob)
      have HOWN := Lib.hid hown2
      have hwr : w.heap.size ≤ wr.heap.size + 1 := by have := hbel.size; omega
      have hns := szL_at hn
      rw [szN_eq] at hns
      clear hcell hn hat hkeep hown2
      by_cases h2 : n.kind = 2
      · have B2 : (n.kind == 2) = true := by simp [h2]
        obtain ⟨q, hq⟩ : ∃ q, n.text.toList.isEmpty = q := ⟨_, rfl⟩
        cases q with
        | true =>
          have HF := Lib.hid (show mergeB (l.take (k + 1)) = out by rw [HSN.out]; unfold mstep; rw [if_pos ⟨h2, (isEmpty_iff' _).1 hq⟩])
          clear h2
          have HOW := Lib.hid hown
          clear hown
          go_wp2_with fail
          go_roundw
          case rel => exact ⟨k + 1, out, by go_num, by omega, HF.out, HOW.out, hbel⟩
          case measure => simp [intOf]; omega
        | false =>
          have hne : ¬ n.text.data.toList = [] := fun e => by rw [(isEmpty_iff' _).2 e] at hq; cases hq
          rcases Nat.eq_zero_or_pos out.length with h0 | h0
          · have he : out = [] := List.eq_nil_of_length_eq_zero h0
            subst he
            have HF := Lib.hid (show mergeB (l.take (k + 1)) = [] ++ [n] by rw [HSN.out]; unfold mstep; rw [if_neg (fun h => hne h.2), if_neg (fun h => by simp [lastText] at h)])
            have HOW := Lib.hid hown
            clear h2 hne hown h0
            go_wp2_with (at_builtin; refine wpList_append_node rfl _ _ rfl w.heap.size lo [] _ rfl (HOWN.out _) ⟨n, va, vk⟩ ⟨wr.heap.size, 0, none⟩ 1 rfl (new_five _ _ _) ((HAT.out.at_.keep (HKP.out _).1).mono (HKP.out _).2) ((HAT.out.kids.keep (HKP.out _).1).mono (HKP.out _).2) (by omega) (by simpa using hwr) ?_; intro v' w2 hown' hgrow)
            have hB2 : Below w.heap.size w w2 := (hbel.alloc hbel.size _).grown hgrow (by simpa using hwr) (fun g hg => (OwnT.lt HOW.out g hg).1)
            clear hgrow
            go_roundw
            case rel => exact ⟨k + 1, [] ++ [n], by go_num, by omega, HF.out, hown', hB2⟩
            case measure => simp [intOf]; omega
          · obtain ⟨m, x, hmx⟩ := snoc_of h0
            subst hmx
            obtain ⟨g, rfl, hlenx, hbg, g0, g3, gf⟩ := hown.last
            have hlm : (m ++ [x]).length = m.length + 1 := by simp
            rw [hlm] at hol
            by_cases hx2 : x.kind = 2
            · have C2 : (x.kind == 2) = true := by simp [hx2]
              have HF := Lib.hid (show mergeB (l.take (k + 1)) = m ++ [.mk x.kind x.name x.attrs (x.text ++ n.text) x.kids] by rw [HSN.out]; unfold mstep; rw [if_neg (fun h => hne h.2), if_pos ⟨h2, by rw [lastText_snoc]; exact C2⟩, mglue_snoc])
              have htx := OwnC.text hown (x.text ++ n.text)
              rw [hlm] at htx
              have HTX := Lib.hid htx
              have hxs : x.text.size ≤ 1000000 := by
                have h1 := szL_at (l := m ++ [x]) (j := m.length) (n := x) (by simp)
                rw [szN_eq] at h1
                omega
              have hns2 : n.text.size ≤ 1000000 := by omega
              have i1 : (m.length : Int) < ((m.length + 1 : Nat) : Int) := by omega
              have i2 : (0 : Int) ≤ (m.length : Int) := by omega
              have HOL := Lib.hid hlenx
              clear h2 hx2 hne hown h0 hlm htx hlenx
              rw [show (m ++ [x]).length = m.length + 1 by simp]
              go_wp2_with fail
              have i3 : (m.length : Int) < (m.length : Int) + 1 := by omega
              have i4 : (k : Int) < (l.length : Int) := by omega
              have i5 : ¬ (9223372036854775807 < x.text.size + n.text.size) := by omega
              go_still_tail 15, (by kernel_rfl)
              change wpList _ _ _ _ _ wr.drew
              clear i5
              go_wp2_with fail
              have hB2 : Below w.heap.size w (wr.setCell ⟨g, m.length * 5 + 3, none⟩ (.string (x.text ++ n.text))).drew := (hbel.setCell hbg _).drew
              go_roundw
              case rel => exact ⟨k + 1, _, by go_num, by omega, HF.out, HTX.out.1.drew, hB2⟩
              case measure => simp [intOf]; omega
            · have C2 : (x.kind == 2) = false := by simp [hx2]
              have HF := Lib.hid (show mergeB (l.take (k + 1)) = (m ++ [x]) ++ [n] by rw [HSN.out]; unfold mstep; rw [if_neg (fun h => hne h.2), if_neg (fun h => by have := h.2; rw [lastText_snoc, C2] at this; cases this)])
              have i1 : (m.length : Int) < ((m.length + 1 : Nat) : Int) := by omega
              have HOW := Lib.hid hown
              clear h2 hx2 hne hown h0 hlenx hlm
              rw [show (m ++ [x]).length = m.length + 1 by simp] at HOWN HOW ⊢
              go_wp2_with (at_builtin; refine wpList_append_node rfl _ _ rfl w.heap.size lo (m ++ [x]) _ rfl (HOWN.out _) ⟨n, va, vk⟩ ⟨wr.heap.size, 0, none⟩ 1 rfl (new_five _ _ _) ((HAT.out.at_.keep (HKP.out _).1).mono (HKP.out _).2) ((HAT.out.kids.keep (HKP.out _).1).mono (HKP.out _).2) (by rw [List.length_append]; simp; omega) (by simpa using hwr) ?_; intro v' w2 hown' hgrow)
              have hB2 : Below w.heap.size w w2 := (hbel.alloc hbel.size _).grown hgrow (by simpa using hwr) (fun g hg => (OwnT.lt HOW.out g hg).1)
              clear hgrow
              go_roundw
              case rel => exact ⟨k + 1, (m ++ [x]) ++ [n], by go_num, by omega, HF.out, hown', hB2⟩
              case measure => simp [intOf]; omega
      · have B2 : (n.kind == 2) = false := by simp [h2]
        have HF := Lib.hid (show mergeB (l.take (k + 1)) = out ++ [n] by rw [HSN.out]; unfold mstep; rw [if_neg (fun h => h2 h.1), if_neg (fun h => h2 h.1)])
        have HOW := Lib.hid hown
        clear h2 hown
        go_wp2_with (at_builtin; refine wpList_append_node rfl _ _ rfl w.heap.size lo out _ rfl (HOWN.out _) ⟨n, va, vk⟩ ⟨wr.heap.size, 0, none⟩ 1 rfl (new_five _ _ _) ((HAT.out.at_.keep (HKP.out _).1).mono (HKP.out _).2) ((HAT.out.kids.keep (HKP.out _).1).mono (HKP.out _).2) (by omega) (by simpa using hwr) ?_; intro v' w2 hown' hgrow)
        have hB2 : Below w.heap.size w w2 := (hbel.alloc hbel.size _).grown hgrow (by simpa using hwr) (fun g hg => (OwnT.lt HOW.out g hg).1)
        clear hgrow
        go_roundw
        case rel => exact ⟨k + 1, out ++ [n], by go_num, by omega, HF.out, hown', hB2⟩
        case measure => simp [intOf]; omega
    · have hm : mergeB l = out := by
        have := HO.out
        rwa [List.take_of_length_le (by omega)] at this
      have HM := Lib.hid hm
      have HOW := Lib.hid hown
      clear hm hown
      go_wp2_with fail
      go_ret
      rw [HM.out]
      exact ⟨_, rfl, HOW.out, hbel⟩

end Go.Proofs.Ytoidjkkjnhnbhaa
