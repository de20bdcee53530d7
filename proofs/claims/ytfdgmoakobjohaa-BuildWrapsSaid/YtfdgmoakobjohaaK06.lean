/- Parts of the proof, in build order: TokZ TreZ TreeL Laid BdT BldP. -/
import Derived.Test.YtfdgmoakobjohaaK05
import Derived.Test.YtfdgmoakobjohaaK02
import Derived.Test.YtfdgmoakobjohaaK03

/- Part TokZ. -/
namespace Go.Proofs.Ytfdgmoakobjohaa
set_option linter.unusedVariables false
set_option linter.unusedSimpArgs false

def szK (k : Tk) : Nat := 10 + k.name.size + k.text.size + szA k.attrs
def szKs : List Tk → Nat
  | [] => 0
  | k :: l => szK k + szKs l
theorem szKs_append : ∀ a b : List Tk, szKs (a ++ b) = szKs a + szKs b
  | [], b => by simp [szKs]
  | k :: a, b => by rw [List.cons_append]; simp only [szKs]; rw [szKs_append a b]; omega
theorem szKs_mem : ∀ {l : List Tk} {k : Tk}, k ∈ l → szK k ≤ szKs l
  | x :: l, k, h => by
    simp only [szKs]
    rcases List.mem_cons.1 h with rfl | h
    · omega
    · have := szKs_mem h; omega
theorem szKs_len : ∀ l : List Tk, 10 * l.length ≤ szKs l
  | [] => by simp [szKs]
  | k :: l => by
    have := szKs_len l
    simp only [szKs, List.length_cons]
    unfold szK
    omega
theorem szK_chars (t : List UInt8) : szK (tkC t) = 10 + t.length := by
  show 10 + (tB []).size + (tB t).size + szA [] = _
  rw [tB_size, tB_size]
  simp [szA]
theorem szK_remark (t : List UInt8) : szK (tkR t) = 10 + t.length := by
  show 10 + (tB []).size + (tB t).size + szA [] = _
  rw [tB_size, tB_size]
  simp [szA]
theorem szK_end (t : List UInt8) : szK (tkE t) = 10 + t.length := by
  show 10 + (tB t).size + (tB []).size + szA [] = _
  rw [tB_size, tB_size]
  simp [szA]
theorem szK_begin (t : List UInt8) (ats : List (ByteArray × ByteArray)) : szK (tkB t ats) = 10 + t.length + szA ats := by
  show 10 + (tB t).size + (tB []).size + szA ats = _
  rw [tB_size, tB_size]
  simp

theorem while_len {p : UInt8 → Bool} (l : List UInt8) : (l.takeWhile p).length + (l.dropWhile p).length = l.length := by
  rw [← List.length_append, List.takeWhile_append_dropWhile]
theorem valOf_sum {l : List UInt8} {x : List UInt8 × List UInt8} (h : valOf l = some x) : x.1.length + x.2.length ≤ l.length := by
  cases l with
  | nil =>
    have h' : some (([], []) : List UInt8 × List UInt8) = some x := h
    injection h' with h'
    subst h'
    simp
  | cons q r =>
    rw [valOf_cons] at h
    split at h
    · split at h
      · injection h with h
        subst h
        have := while_len (p := neC q) r
        simp only [List.length_drop, List.length_cons]
        omega
      · cases h
    · injection h with h
      subst h
      have := while_len (p := valC) (q :: r)
      show (List.takeWhile valC (q :: r)).length + (List.dropWhile valC (q :: r)).length ≤ _
      omega
theorem attOf_sz {c : UInt8} {r : List UInt8} {x : (ByteArray × ByteArray) × List UInt8} (h : attOf (c :: r) = some x) : x.1.1.size + x.1.2.size + x.2.length ≤ (c :: r).length := by
  have h1 := behind_len (c :: r)
  have h2 := while_len (p := goC) (c :: r)
  have hn : (tB (nameAt (c :: r))).size = ((c :: r).takeWhile goC).length := by rw [tB_size]; unfold nameAt; rw [List.length_map]
  cases hb : behind (c :: r) with
  | nil =>
    rw [attOf_nil hb] at h
    injection h with h
    subst h
    show (tB (nameAt (c :: r))).size + (tB []).size + 0 ≤ _
    rw [hn, tB_size]
    simp only [List.length_nil]
    omega
  | cons c' r' =>
    rw [hb, List.length_cons] at h1
    by_cases he : c' = 61
    · subst he
      rw [attOf_eq hb] at h
      cases hv : valOf (r'.dropWhile blC) with
      | none => rw [hv] at h; cases h
      | some y =>
        rw [hv] at h
        injection h with h
        subst h
        have h3 := valOf_sum hv
        have h4 := drop_len blC r'
        have h5 := decB_len _ y.1 (Nat.le_refl _)
        show (tB (nameAt (c :: r))).size + (tB (decB y.1)).size + y.2.length ≤ _
        rw [hn, tB_size]
        omega
    · rw [attOf_other hb he] at h
      injection h with h
      subst h
      show (tB (nameAt (c :: r))).size + (tB []).size + (c' :: r').length ≤ _
      rw [hn, tB_size, List.length_cons]
      simp only [List.length_nil]
      omega
theorem addA_sz (acc : List (ByteArray × ByteArray)) (a : ByteArray × ByteArray) : szA (addA acc a) ≤ szA acc + (10 + a.1.size + a.2.size) := by
  unfold addA
  split
  · omega
  · rw [szA_append]
    simp only [szA]
    omega
theorem attsOf_sz : ∀ (n : Nat) (l : List UInt8) (acc : List (ByteArray × ByteArray)) (x : List (ByteArray × ByteArray) × List UInt8), l.length ≤ n → attsOf acc l = some x → szA x.1 + 11 * x.2.length ≤ szA acc + 11 * l.length
  | n, [], acc, x, _, h => by rw [attsOf_nil] at h; cases h
  | 0, c :: r, acc, x, hn, h => by simp at hn
  | n + 1, c :: r, acc, x, hn, h => by
    rw [List.length_cons] at hn ⊢
    by_cases h1 : c = 62
    · subst h1
      rw [attsOf_end] at h
      injection h with h
      subst h
      show szA acc + 11 * r.length ≤ _
      omega
    cases h2 : stopC c with
    | true =>
      rw [attsOf_skip acc r h1 h2] at h
      have := attsOf_sz n r acc x (by omega) h
      omega
    | false =>
      cases h3 : attOf (c :: r) with
      | none => rw [attsOf_none acc h2 h3] at h; cases h
      | some y =>
        rw [attsOf_some acc h2 h3] at h
        have h4 := attOf_len h2 h3
        have h5 := attOf_sz h3
        have h6 := addA_sz acc y.1
        rw [List.length_cons] at h4 h5
        have := attsOf_sz n y.2 _ x (by omega) h
        omega
theorem upTo3_sum : ∀ l : List UInt8, (upTo3 l).1.length + (upTo3 l).2.length ≤ l.length := by
  intro l
  rcases upTo3_form l with ⟨h1, h2⟩ | h1
  · rw [h2, ← h1]; simp
  · have := congrArg List.length h1
    simp only [List.length_append, List.length_cons] at this
    omega
theorem upTo1_sum (l : List UInt8) : (upTo1 l).1.length + (upTo1 l).2.length ≤ l.length := by
  have := while_len (p := neC 62) l
  show (l.takeWhile (neC 62)).length + ((l.dropWhile (neC 62)).drop 1).length ≤ _
  rw [List.length_drop]
  omega
theorem name_len (l : List UInt8) : ((l.takeWhile tagC).map lowB).length ≤ l.length := by
  have := while_len (p := tagC) l
  rw [List.length_map]
  omega
theorem slashB_sz (l : List UInt8) : ∀ k, (slashB l).1 = some k → szK k ≤ 10 + l.length := by
  intro k hk
  cases l with
  | nil =>
    have hk' : some (tkR []) = some k := hk
    injection hk' with hk'
    subst hk'
    rw [szK_remark]
    omega
  | cons d r =>
    have h1 := upTo1_sum (d :: r)
    have h2 := name_len (d :: r)
    rw [slashB_cons] at hk
    split at hk
    · cases hk
    · split at hk
      · split at hk
        · injection hk with hk
          subst hk
          rw [szK_end]
          omega
        · cases hk
      · injection hk with hk
        subst hk
        rw [szK_remark]
        omega
theorem tagB_sz {l : List UInt8} (h : startsB l = true) : ∀ k, (tagB l).1 = some k → szK k + 21 * (tagB l).2.length ≤ 21 * l.length := by
  intro k hk
  have hlen := tagB_len h
  obtain ⟨c, r, rfl, hc⟩ := starts_form h
  cases hlc : letC c with
  | true =>
    rw [tagB_letter hlc] at hk hlen ⊢
    cases ha : attsOf [] ((c :: r).dropWhile tagC) with
    | none => rw [ha] at hk; cases hk
    | some x =>
      rw [ha] at hk
      injection hk with hk
      subst hk
      have h1 := attsOf_sz _ _ [] x (Nat.le_refl _) ha
      have h2 := attsOf_len _ _ _ x (Nat.le_refl _) ha
      have h3 := while_len (p := tagC) (c :: r)
      rw [szK_begin, List.length_map]
      show 10 + _ + szA x.1 + 21 * x.2.length ≤ _
      simp only [szA] at h1
      rw [List.length_cons, List.length_cons]
      rw [List.length_cons] at h3
      omega
  | false =>
    cases hp : Lib.hasPrefix (c :: r) [33, 45, 45] with
    | true =>
      obtain ⟨t, ht⟩ := pre_form3 hp
      injection ht with h1 h2
      subst h1
      subst h2
      rw [tagB_remark] at hk ⊢
      injection hk with hk
      subst hk
      have := upTo3_sum t
      rw [szK_remark]
      show 10 + (upTo3 t).1.length + 21 * (upTo3 t).2.length ≤ _
      simp only [List.length_cons]
      omega
    | false =>
      by_cases h4 : c = 47
      · subst h4
        rw [tagB_slash] at hk hlen ⊢
        have h5 := slashB_sz r k hk
        have h6 : szK k + 21 * (slashB r).2.length ≤ 21 * (r.length + 2) := by
          cases r with
          | nil =>
            have h7 := slashB_len ([] : List UInt8)
            simp only [List.length_nil] at h5 h7 ⊢
            omega
          | cons d r =>
            have h8 := upTo1_sum (d :: r)
            have h9 := name_len (d :: r)
            rw [slashB_cons] at hk ⊢
            split at hk
            · cases hk
            · rename_i hd
              rw [if_neg hd]
              split at hk
              · rename_i hl
                rw [if_pos hl]
                split at hk
                · rename_i h62
                  rw [if_pos h62]
                  injection hk with hk
                  subst hk
                  rw [szK_end]
                  have htw : ((d :: r).takeWhile tagC).length ≤ (upTo1 (d :: r)).1.length := by
                    show _ ≤ ((d :: r).takeWhile (neC 62)).length
                    have key : ∀ l : List UInt8, (l.takeWhile tagC).length ≤ (l.takeWhile (neC 62)).length := by
                      intro l
                      induction l with
                      | nil => exact Nat.le_refl _
                      | cons x l ih =>
                        rw [List.takeWhile_cons, List.takeWhile_cons]
                        split
                        · rename_i hx
                          have : neC 62 x = true := by
                            by_cases e : x = 62
                            · subst e; cases hx
                            · simp [neC, e]
                          rw [if_pos this]
                          simp only [List.length_cons]
                          omega
                        · exact Nat.zero_le _
                    exact key _
                  rw [List.length_map]
                  show 10 + _ + 21 * (upTo1 (d :: r)).2.length ≤ _
                  omega
                · cases hk
              · rename_i hl
                rw [if_neg hl]
                injection hk with hk
                subst hk
                rw [szK_remark]
                show 10 + _ + 21 * (upTo1 (d :: r)).2.length ≤ _
                omega
        simp only [List.length_cons]
        omega
      · rw [tagB_other hlc hp h4] at hk ⊢
        injection hk with hk
        subst hk
        have := upTo1_sum r
        rw [szK_remark]
        show 10 + (upTo1 r).1.length + 21 * (upTo1 r).2.length ≤ _
        simp only [List.length_cons]
        omega
theorem rawBody_sz (l : List UInt8) : szKs (rawBody l) ≤ 21 * l.length := by
  unfold rawBody
  split
  · exact Nat.zero_le _
  · rename_i h
    have : 0 < l.length := List.length_pos_iff.2 h
    simp only [szKs]
    rw [szK_chars]
    omega
/-- All tokens together are no greater than the text, but for a factor. -/
theorem tok_sz : ∀ (n : Nat) (l : List UInt8), l.length ≤ n → szKs (tokB l) ≤ 21 * l.length
  | n, [], _ => by rw [tokB_nil]; exact Nat.zero_le _
  | 0, c :: r, hn => by simp at hn
  | n + 1, c :: r, hn => by
    cases hst : startsB (c :: r) with
    | false =>
      rw [tokB_chars hst]
      have h1 := charsB_less hst
      have h2 := congrArg List.length (charsB_app (c :: r)).1
      have h3 := decB_len _ (charsB (c :: r)).1 (Nat.le_refl _)
      have h4 := tok_sz n (charsB (c :: r)).2 (by omega)
      rw [List.length_append] at h2
      simp only [szKs]
      rw [szK_chars]
      omega
    | true =>
      have h1 := tagB_len hst
      cases ht : (tagB (c :: r)).1 with
      | none =>
        rw [tokB_none hst ht]
        have := tok_sz n (tagB (c :: r)).2 (by omega)
        omega
      | some k =>
        have h2 := tagB_sz hst k ht
        cases hr : rawTk k with
        | false =>
          rw [tokB_tag hst ht hr]
          have := tok_sz n (tagB (c :: r)).2 (by omega)
          simp only [szKs]
          omega
        | true =>
          rw [tokB_raw hst ht hr]
          have hlen := cutEnd_len k.name.data.toList (tagB (c :: r)).2
          have h3 := tok_sz n (cutEnd k.name.data.toList (tagB (c :: r)).2).2 (by omega)
          have h4 := rawBody_sz (cutEnd k.name.data.toList (tagB (c :: r)).2).1
          have h5 := congrArg List.length (cutEnd_app k.name.data.toList (tagB (c :: r)).2)
          rw [List.length_append] at h5
          simp only [szKs]
          rw [szKs_append]
          omega

end Go.Proofs.Ytfdgmoakobjohaa

/- Part TreZ. -/
namespace Go.Proofs.Ytfdgmoakobjohaa
set_option linter.unusedVariables false

def szF (f : Fr) : Nat := 10 + f.name.size + szA f.attrs + szL f.kids
def szFs : List Fr → Nat
  | [] => 0
  | f :: l => szF f + szFs l
def szB (s : Bst) : Nat := szFs s.fs + szL s.out
theorem add_sz (s : Bst) (n : Nd) : szB (addTo s n) ≤ szB s + szN n := by
  obtain ⟨fs, out⟩ := s
  cases fs with
  | nil =>
    have := mstep_sz out n
    simp only [addTo, szB, szFs]
    omega
  | cons f fs =>
    have := mstep_sz f.kids n
    simp only [addTo, szB, szFs, szF]
    omega
theorem pop_sz (s : Bst) : szB (popB s) ≤ szB s := by
  obtain ⟨fs, out⟩ := s
  cases fs with
  | nil => exact Nat.le_refl _
  | cons f fs =>
    have h := add_sz ⟨fs, out⟩ (nodeOf f)
    have e : szN (nodeOf f) = szF f := by
      unfold nodeOf szF
      rw [szN_mk]
      have : (tB []).size = 0 := rfl
      omega
    rw [e] at h
    simp only [popB, szB, szFs] at h ⊢
    omega
theorem popN_sz : ∀ (n : Nat) (s : Bst), szB (popN n s) ≤ szB s
  | 0, s => Nat.le_refl _
  | n + 1, s => Nat.le_trans (popN_sz n (popB s)) (pop_sz s)
theorem put_sz (s : Bst) (k : Tk) : szB (putB s k) ≤ szB s + szK k := by
  unfold putB szK
  have t0 : (tB []).size = 0 := rfl
  split
  · have h := popN_sz (s.fs.takeWhile (shutBy k.name.data.toList)).length s
    dsimp only
    split
    · have h2 := add_sz (popN (s.fs.takeWhile (shutBy k.name.data.toList)).length s) (.mk 1 k.name k.attrs (tB []) [])
      rw [szN_mk, szL_nil] at h2
      omega
    · simp only [szB, szFs, szF, szL_nil] at h ⊢
      omega
  · split
    · split
      · omega
      · exact Nat.le_trans (popN_sz _ _) (by omega)
    · split
      · have h2 := add_sz s (textN k.text)
        unfold textN at h2 ⊢
        rw [szN_mk, szL_nil] at h2
        simp only [szA] at h2
        omega
      · split
        · have h2 := add_sz s (remN k.text)
          unfold remN at h2 ⊢
          rw [szN_mk, szL_nil] at h2
          simp only [szA] at h2
          omega
        · omega
theorem puts_sz : ∀ (l : List Tk) (s : Bst), szB (l.foldl putB s) ≤ szB s + szKs l
  | [], s => by simp [szKs]
  | k :: l, s => by
    rw [List.foldl_cons]
    have h1 := puts_sz l (putB s k)
    have h2 := put_sz s k
    simp only [szKs]
    omega
theorem tree_sz (l : List Tk) : szL (treeB l) ≤ szKs l := by
  unfold treeB nodesB
  have h1 := puts_sz l ⟨[], []⟩
  have h2 := popN_sz (l.foldl putB ⟨[], []⟩).fs.length (l.foldl putB ⟨[], []⟩)
  have e : szB ⟨[], []⟩ = 0 := rfl
  unfold szB at h2
  have : szL (popN (l.foldl putB ⟨[], []⟩).fs.length (l.foldl putB ⟨[], []⟩)).out ≤ szFs (popN (l.foldl putB ⟨[], []⟩).fs.length (l.foldl putB ⟨[], []⟩)).fs + szL (popN (l.foldl putB ⟨[], []⟩).fs.length (l.foldl putB ⟨[], []⟩)).out := Nat.le_add_left _ _
  unfold szB at h1 e
  omega
theorem parse_sz (l : List UInt8) : szL (parseB l) ≤ 21 * l.length := Nat.le_trans (tree_sz _) (tok_sz _ l (Nat.le_refl _))

end Go.Proofs.Ytfdgmoakobjohaa

/- Part TreeL. -/
namespace Go.Proofs.Ytfdgmoakobjohaa
open Go.RowKit
set_option linter.unusedVariables false

/-- An element with one attribute and one text. -/
def elt (an av nm kt : ByteArray) : Nd := .mk 1 nm [(an, av)] ⟨#[]⟩ [.mk 2 ⟨#[]⟩ [] kt []]
def bareE (nm : ByteArray) : Nd := .mk 1 nm [] ⟨#[]⟩ []
def WL (w : World) (an av nm kt : ByteArray) : World :=
  ((w.alloc (.cells #[.string an, .string av] 39)).alloc (.cells #[.int .i64 2, .string ⟨#[]⟩, .slice none 0 0, .string kt, .slice none 0 0] 37)).alloc
    (.cells #[.int .i64 1, .string nm, .slice (some ⟨w.heap.size, 0, none⟩) 1 1, .string ⟨#[]⟩, .slice (some ⟨w.heap.size + 1, 0, none⟩) 1 1] 37)

theorem lit_cells {w : World} {b : Nat} {cs : Array Value} (h : ∀ j, j < cs.size → w.cell? ⟨b, j, none⟩ = cs[j]?) (hb : b < w.heap.size) (xs : List Value) (hx : cs.toList = xs) : Cells (· < w.heap.size) w (some ⟨b, 0, none⟩) xs := by
  intro _
  refine ⟨b, 0, rfl, hb, fun j u hu => ?_⟩
  rw [Nat.zero_add, h j (by rw [← hx] at hu; simpa using (List.getElem?_eq_some_iff.1 hu).1), ← hu, ← hx]
  simp

theorem tree_elt (w : World) (an av nm kt : ByteArray) : Tree (· < (WL w an av nm kt).heap.size) (WL w an av nm kt) [elt an av nm kt] (.slice (some ⟨w.heap.size + 2, 0, none⟩) 1 1) := by
  have hs : (WL w an av nm kt).heap.size = w.heap.size + 3 := by simp [WL]
  have ca : AttrsAt (· < (WL w an av nm kt).heap.size) (WL w an av nm kt) [(an, av)] (.slice (some ⟨w.heap.size, 0, none⟩) 1 1) :=
    ⟨_, 1, rfl, Nat.le_refl _, lit_cells (cs := #[.string an, .string av]) (fun j hj => by
      unfold WL
      rw [World.cell?_alloc_past _ _ _ (by simp; omega), World.cell?_alloc_past _ _ _ (by simp), World.cell?_alloc_mark]) (by omega) _ rfl⟩
  have ck : Tree (· < (WL w an av nm kt).heap.size) (WL w an av nm kt) [.mk 2 ⟨#[]⟩ [] kt []] (.slice (some ⟨w.heap.size + 1, 0, none⟩) 1 1) :=
    .mk [⟨.mk 2 ⟨#[]⟩ [] kt [], .slice none 0 0, .slice none 0 0⟩] _ _ 1 rfl (Nat.le_refl _) (lit_cells (cs := #[.int .i64 2, .string ⟨#[]⟩, .slice none 0 0, .string kt, .slice none 0 0]) (fun j hj => by
      unfold WL
      rw [World.cell?_alloc_past _ _ _ (by simp)]
      have := World.cell?_alloc_mark (w.alloc (.cells #[.string an, .string av] 39)) #[.int .i64 2, .string ⟨#[]⟩, .slice none 0 0, .string kt, .slice none 0 0] 37 (0, 0) j
      rwa [World.size_alloc] at this) (by omega) _ rfl)
      (fun r hr => by simp at hr; subst hr; exact AttrsAt.nil _ _) (fun r hr => by simp at hr; subst hr; exact Tree.nil _ _)
  exact .mk [⟨elt an av nm kt, .slice (some ⟨w.heap.size, 0, none⟩) 1 1, .slice (some ⟨w.heap.size + 1, 0, none⟩) 1 1⟩] _ _ 1 rfl (Nat.le_refl _) (lit_cells (cs := #[.int .i64 1, .string nm, .slice (some ⟨w.heap.size, 0, none⟩) 1 1, .string ⟨#[]⟩, .slice (some ⟨w.heap.size + 1, 0, none⟩) 1 1]) (fun j hj => by
      unfold WL
      have := World.cell?_alloc_mark ((w.alloc (.cells #[.string an, .string av] 39)).alloc (.cells #[.int .i64 2, .string ⟨#[]⟩, .slice none 0 0, .string kt, .slice none 0 0] 37)) #[.int .i64 1, .string nm, .slice (some ⟨w.heap.size, 0, none⟩) 1 1, .string ⟨#[]⟩, .slice (some ⟨w.heap.size + 1, 0, none⟩) 1 1] 37 (0, 0) j
      rwa [World.size_alloc, World.size_alloc] at this) (by omega) _ rfl)
      (fun r hr => by simp at hr; subst hr; exact ca) (fun r hr => by simp at hr; subst hr; exact ck)

theorem tree_bare (w : World) (nm : ByteArray) : Tree (· < w.heap.size + 1) (w.alloc (.cells #[.int .i64 1, .string nm, .slice none 0 0, .string ⟨#[]⟩, .slice none 0 0] 37)) [bareE nm] (.slice (some ⟨w.heap.size, 0, none⟩) 1 1) := by
  have h := lit_cells (w := w.alloc (.cells #[.int .i64 1, .string nm, .slice none 0 0, .string ⟨#[]⟩, .slice none 0 0] 37)) (b := w.heap.size) (cs := #[.int .i64 1, .string nm, .slice none 0 0, .string ⟨#[]⟩, .slice none 0 0]) (fun j _ => World.cell?_alloc_mark _ _ _ _ _) (by simp) _ rfl
  rw [World.size_alloc] at h
  exact .mk [⟨bareE nm, .slice none 0 0, .slice none 0 0⟩] _ _ 1 rfl (Nat.le_refl _) h (fun r hr => by simp at hr; subst hr; exact AttrsAt.nil _ _) (fun r hr => by simp at hr; subst hr; exact Tree.nil _ _)

theorem below_WL (w : World) (an av nm kt : ByteArray) : Below w.heap.size w (WL w an av nm kt) := (((Below.refl _ w).alloc (Nat.le_refl _) _).alloc (by simp) _).alloc (by simp; omega) _

end Go.Proofs.Ytfdgmoakobjohaa

/- Part Laid. -/
namespace Go.Proofs.Ytfdgmoakobjohaa
open Go.RowKit
set_option linter.unusedVariables false

theorem cells_here {S : Nat → Prop} {W : World} {k : Nat} {cs : Array Value} {t : TypeId} (h : W.heap[k]? = some (.cells cs t (0, 0))) (hS : S k) (xs : List Value) (hx : cs.toList = xs) : Cells S W (some ⟨k, 0, none⟩) xs := by
  intro _
  refine ⟨k, 0, rfl, hS, fun j u hu => ?_⟩
  rw [Nat.zero_add, cell_at h j, ← hu, ← hx]
  simp
theorem attr_here {S : Nat → Prop} {W : World} {k : Nat} {an av : ByteArray} {t : TypeId} (h : W.heap[k]? = some (.cells #[.string an, .string av] t (0, 0))) (hS : S k) : AttrsAt S W [(an, av)] (.slice (some ⟨k, 0, none⟩) 1 1) :=
  ⟨_, 1, rfl, Nat.le_refl _, cells_here h hS _ rfl⟩
theorem kid_here {S : Nat → Prop} {W : World} {k : Nat} {kt : ByteArray} {t : TypeId} (h : W.heap[k]? = some (.cells #[.int .i64 2, .string ⟨#[]⟩, .slice none 0 0, .string kt, .slice none 0 0] t (0, 0))) (hS : S k) :
    Tree S W [.mk 2 ⟨#[]⟩ [] kt []] (.slice (some ⟨k, 0, none⟩) 1 1) :=
  .mk [⟨.mk 2 ⟨#[]⟩ [] kt [], .slice none 0 0, .slice none 0 0⟩] _ _ 1 rfl (Nat.le_refl _) (cells_here h hS _ rfl) (fun r hr => by simp at hr; subst hr; exact AttrsAt.nil _ _) (fun r hr => by simp at hr; subst hr; exact Tree.nil _ _)

/-- All that one node more wants to know. -/
structure Laid (W : World) (base : Nat) (g : List Nd) (v : Value) (r : Rn) (ad : Addr) : Prop where
  own : OwnC W base base g v
  news : ∀ j u, (ncells1 r)[j]? = some u → W.cell? (ad.add j) = some u
  at_ : AttrsAt (Sub base W v) W r.n.attrs r.va
  kids : Tree (Sub base W v) W r.n.kids r.vk
  le : base ≤ W.heap.size

def eltR (an av nm kt : ByteArray) (α β : Nat) : Rn := ⟨elt an av nm kt, .slice (some ⟨α, 0, none⟩) 1 1, .slice (some ⟨β, 0, none⟩) 1 1⟩
def oAt (an av : ByteArray) : Obj := .cells #[.string an, .string av] 39
def oKid (kt : ByteArray) : Obj := .cells #[.int .i64 2, .string ⟨#[]⟩, .slice none 0 0, .string kt, .slice none 0 0] 37
def oElt (nm : ByteArray) (α β : Nat) : Obj := .cells #[.int .i64 1, .string nm, .slice (some ⟨α, 0, none⟩) 1 1, .string ⟨#[]⟩, .slice (some ⟨β, 0, none⟩) 1 1] 37

theorem laid_of {W0 W : World} {base : Nat} {g : List Nd} {v : Value} (h : OwnC W0 base base g v) (hb : base ≤ W0.heap.size) (hB : Below W0.heap.size W0 W) (an av nm kt : ByteArray) {α β γ : Nat}
    (hα : W.heap[α]? = some (.cells #[.string an, .string av] 39 (0, 0))) (hβ : W.heap[β]? = some (.cells #[.int .i64 2, .string ⟨#[]⟩, .slice none 0 0, .string kt, .slice none 0 0] 37 (0, 0)))
    (hγ : W.heap[γ]? = some (.cells #[.int .i64 1, .string nm, .slice (some ⟨α, 0, none⟩) 1 1, .string ⟨#[]⟩, .slice (some ⟨β, 0, none⟩) 1 1] 37 (0, 0)))
    (h1 : W0.heap.size ≤ α) (h2 : W0.heap.size ≤ β) : Laid W base g v (eltR an av nm kt α β) ⟨γ, 0, none⟩ := by
  have lt : ∀ {k : Nat} {o : Obj}, W.heap[k]? = some o → k < W.heap.size := fun h => (Array.getElem?_eq_some_iff.1 h).1
  have sub : ∀ k, W0.heap.size ≤ k → k < W.heap.size → Sub base W v k := by
    intro k h0 hk
    refine ⟨by omega, hk, fun e => ?_⟩
    have := (OwnT.lt h k e).2
    omega
  refine ⟨h.later hB, fun j u hu => ?_, attr_here hα (sub _ h1 (lt hα)), kid_here hβ (sub _ h2 (lt hβ)), Nat.le_trans hb hB.size⟩
  rw [add_zero_addr, cell_at hγ j]
  have hu' : [Value.int IntKind.i64 1, Value.string nm, Value.slice (some ⟨α, 0, none⟩) 1 1, Value.string ⟨#[]⟩, Value.slice (some ⟨β, 0, none⟩) 1 1][j]? = some u := hu
  simpa using hu'

theorem alloc_past {W : World} {o : Obj} {k : Nat} {x : Obj} (h : W.heap[k]? = some x) : (W.alloc o).heap[k]? = some x := by
  have hlt : k < W.heap.size := (Array.getElem?_eq_some_iff.1 h).1
  exact (Below.heap_alloc W o k hlt).trans h
theorem alloc_here' {W : World} {k : Nat} {cs : Array Value} {t : TypeId} (h : W.heap.size = k) : (W.alloc (.cells cs t)).heap[k]? = some (.cells cs t (0, 0)) := by subst h; exact box_here W cs t

theorem below1 (w : World) (a : Obj) : Below w.heap.size w (w.alloc a).drew := ((Below.refl _ w).alloc (Nat.le_refl _) _).drew
theorem below2 (w : World) (a b : Obj) : Below w.heap.size w ((w.alloc a).alloc b).drew := (((Below.refl _ w).alloc (Nat.le_refl _) _).alloc (by simp) _).drew
theorem below3 (w : World) (a b c : Obj) : Below w.heap.size w (((w.alloc a).alloc b).alloc c).drew := ((((Below.refl _ w).alloc (Nat.le_refl _) _).alloc (by simp) _).alloc (by simp; omega) _).drew

theorem laid1 {w : World} {base : Nat} {g : List Nd} {v : Value} (h : OwnC w base base g v) (hb : base ≤ w.heap.size) (an av nm kt : ByteArray) :
    Laid (((w.alloc (oAt an av)).alloc (oKid kt)).alloc (oElt nm w.heap.size (w.heap.size + 1))).drew base g v (eltR an av nm kt w.heap.size (w.heap.size + 1)) ⟨w.heap.size + 2, 0, none⟩ := by
  have h1 : (((w.alloc (oAt an av)).alloc (oKid kt)).alloc (oElt nm w.heap.size (w.heap.size + 1))).heap[w.heap.size]? = _ := alloc_past (alloc_past (alloc_here' rfl))
  have h2 : (((w.alloc (oAt an av)).alloc (oKid kt)).alloc (oElt nm w.heap.size (w.heap.size + 1))).heap[w.heap.size + 1]? = _ := alloc_past (alloc_here' (by simp))
  have h3 : (((w.alloc (oAt an av)).alloc (oKid kt)).alloc (oElt nm w.heap.size (w.heap.size + 1))).heap[w.heap.size + 2]? = _ := alloc_here' (by simp)
  exact laid_of h hb (below3 _ _ _ _) an av nm kt h1 h2 h3 (Nat.le_refl _) (by omega)
theorem laid2 {w : World} {base : Nat} {g : List Nd} {v : Value} (h : OwnC w base base g v) (hb : base ≤ w.heap.size) (an av nm kt : ByteArray) :
    Laid (((w.alloc (oKid kt)).alloc (oAt an av)).alloc (oElt nm (w.heap.size + 1) w.heap.size)).drew base g v (eltR an av nm kt (w.heap.size + 1) w.heap.size) ⟨w.heap.size + 2, 0, none⟩ := by
  have h1 : (((w.alloc (oKid kt)).alloc (oAt an av)).alloc (oElt nm (w.heap.size + 1) w.heap.size)).heap[w.heap.size + 1]? = _ := alloc_past (alloc_here' (by simp))
  have h2 : (((w.alloc (oKid kt)).alloc (oAt an av)).alloc (oElt nm (w.heap.size + 1) w.heap.size)).heap[w.heap.size]? = _ := alloc_past (alloc_past (alloc_here' rfl))
  have h3 : (((w.alloc (oKid kt)).alloc (oAt an av)).alloc (oElt nm (w.heap.size + 1) w.heap.size)).heap[w.heap.size + 2]? = _ := alloc_here' (by simp)
  exact laid_of h hb (below3 _ _ _ _) an av nm kt h1 h2 h3 (by omega) (Nat.le_refl _)

/-- A cell of what came in, behind the append. -/
theorem far_in {w wr W w4 : World} {g : List Nd} {v : Value} (h : OwnC wr w.heap.size w.heap.size g v) (hb : Below wr.heap.size wr W) (hg : W.grownBy w4 v.ownBlock) {p : Addr} (hp : p.block < w.heap.size) (hw : w.heap.size ≤ wr.heap.size) : w4.cell? p = wr.cell? p := by
  refine (World.cell?_of_block (hg.block p.block (Nat.lt_of_lt_of_le (Nat.lt_of_lt_of_le hp hw) hb.size) (fun e => ?_))).trans (hb.cell (Nat.lt_of_lt_of_le hp hw))
  have := (OwnT.lt h _ e.symm).1
  omega

end Go.Proofs.Ytfdgmoakobjohaa

/- Part BdT. -/
namespace Go.Proofs.Ytfdgmoakobjohaa
open Go.RowKit
set_option linter.unusedVariables false

def pcell (g : Nat) : Value := .pointer (some ⟨g, 0, none⟩)
/-- The kind of the token that told a node. -/
def tkd (k : Int) : Int := if k = 1 then 1 else if k = 2 then 3 else 4
/-- A node, where it lies, and the values in its cells: its text is pre, with mo behind it. -/
structure Rp where
  n : Nd
  g : Nat
  va : Value
  vk : Value
  pre : ByteArray
  bv : Value
  mo : List UInt8
/-- Its cells. -/
structure NdAt (w : World) (r : Rp) : Prop where
  c0 : w.cell? ⟨r.g, 0, none⟩ = some (.int .i64 (tkd r.n.kind))
  c1 : w.cell? ⟨r.g, 1, none⟩ = some (.string r.n.name)
  c2 : w.cell? ⟨r.g, 2, none⟩ = some r.va
  c3 : w.cell? ⟨r.g, 3, none⟩ = some (.string r.pre)
  c5 : w.cell? ⟨r.g, 5, none⟩ = some r.bv
  c6 : w.cell? ⟨r.g, 6, none⟩ = some r.vk
/-- An element, a text (whose bytes F tells of), or a comment. -/
inductive Knd (F : Nat → Nat → Prop) (w : World) (r : Rp) : Prop
  | elem (hk : r.n.kind = 1) (ht : r.n.text = ⟨#[]⟩)
  | text (hk : r.n.kind = 2) (hn : r.n.name = ⟨#[]⟩) (ha : r.n.attrs = []) (hc : r.n.kids = []) (ht : r.n.text = r.pre ++ ⟨r.mo.toArray⟩) (hb : BufAt w r.bv r.mo) (hF : ∀ k, r.bv.ownBlock = some k → F k r.mo.length)
  | comm (hk : r.n.kind = 3) (hn : r.n.name = ⟨#[]⟩) (ha : r.n.attrs = []) (hc : r.n.kids = []) (ht : r.n.text = r.pre)

/-- The slice v points to the nodes l, with all that hangs on them, in blocks of S. -/
inductive PTree (S : Nat → Prop) (F : Nat → Nat → Prop) (w : World) : List Nd → Value → Prop
  | mk (R : List Rp) (l : List Nd) (A : Option Addr) (c : Nat) (hl : R.map Rp.n = l) (hc : l.length ≤ c) (hcell : Cells S w A (R.map fun r => pcell r.g)) (hS : ∀ r ∈ R, S r.g)
      (hn : ∀ r ∈ R, NdAt w r) (hkn : ∀ r ∈ R, Knd F w r) (hat : ∀ r ∈ R, AttrsAt S w r.n.attrs r.va) (hk : ∀ r ∈ R, PTree S F w r.n.kids r.vk) : PTree S F w l (.slice A l.length c)
/-- One of them. -/
structure POne (S : Nat → Prop) (F : Nat → Nat → Prop) (w : World) (r : Rp) : Prop where
  inS : S r.g
  nd : NdAt w r
  kn : Knd F w r
  at_ : AttrsAt S w r.n.attrs r.va
  kids : PTree S F w r.n.kids r.vk

/-- What stays: cells in blocks of S, and rows of bytes as such. -/
structure KeptB (S : Nat → Prop) (F : Nat → Nat → Prop) (w w' : World) : Prop where
  cell : Kept S w w'
  buf : ∀ k m, F k m → w'.heap[k]? = w.heap[k]? ∨ ∃ cur fz fz', w.heap[k]? = some (.cells cur 5 fz) ∧ w'.heap[k]? = some (.cells cur 5 fz')
theorem KeptB.calm {S : Nat → Prop} {F G : Nat → Nat → Prop} {w w' : World} (h : Calm G w w') (hS : ∀ b, S b → b < w.heap.size) (hF : ∀ k m, F k m → k < w.heap.size) : KeptB S F w w' :=
  ⟨h.kept hS, fun k m hk => (h.blk k (hF k m hk)).imp id fun ⟨cur, fz, fz', m, e1, e2, _⟩ => ⟨cur, fz, fz', e1, e2⟩⟩
theorem NdAt.keep {S : Nat → Prop} {w w' : World} {r : Rp} (h : NdAt w r) (hk : Kept S w w') (hS : S r.g) : NdAt w' r :=
  ⟨(hk _ hS 0).trans h.c0, (hk _ hS 1).trans h.c1, (hk _ hS 2).trans h.c2, (hk _ hS 3).trans h.c3, (hk _ hS 5).trans h.c5, (hk _ hS 6).trans h.c6⟩
theorem BufAt.keep {S : Nat → Prop} {F : Nat → Nat → Prop} {w w' : World} {bv : Value} {l : List UInt8} (h : BufAt w bv l) (hk : KeptB S F w w') (hF : ∀ k, bv.ownBlock = some k → F k l.length) : BufAt w' bv l := by
  rcases h with h | ⟨h0, g, cap, cur, fz, hv, hg, r⟩
  · exact .inl h
  · rcases hk.buf g l.length (hF g (by rw [hv]; rfl)) with e | ⟨cur', fz1, fz', e1, e2⟩
    · exact .inr ⟨h0, g, cap, cur, fz, hv, e.trans hg, r⟩
    · rw [hg] at e1
      injection e1 with e1
      injection e1 with e1 _ _
      subst e1
      exact .inr ⟨h0, g, cap, cur, fz', hv, e2, r⟩
theorem Knd.keep {S : Nat → Prop} {F : Nat → Nat → Prop} {w w' : World} {r : Rp} (h : Knd F w r) (hk : KeptB S F w w') : Knd F w' r := by
  cases h with
  | elem a b => exact .elem a b
  | text a b c d e f g => exact .text a b c d e (f.keep hk g) g
  | comm a b c d e => exact .comm a b c d e
theorem Knd.mono {F G : Nat → Nat → Prop} {w : World} {r : Rp} (h : Knd F w r) (hF : ∀ k m, F k m → G k m) : Knd G w r := by
  cases h with
  | elem a b => exact .elem a b
  | text a b c d e f g => exact .text a b c d e f fun k hk => hF _ _ (g k hk)
  | comm a b c d e => exact .comm a b c d e
theorem PTree.keep {S : Nat → Prop} {F : Nat → Nat → Prop} {w w' : World} {l : List Nd} {v : Value} (h : PTree S F w l v) (hk : KeptB S F w w') : PTree S F w' l v := by
  induction h with
  | mk R l A c hl hc hcell hS hn hkn hat hkids ih => exact .mk R l A c hl hc (hcell.keep hk.cell) hS (fun r hr => (hn r hr).keep hk.cell (hS r hr)) (fun r hr => (hkn r hr).keep hk) (fun r hr => (hat r hr).keep hk.cell) ih
theorem PTree.mono {S S' : Nat → Prop} {F G : Nat → Nat → Prop} {w : World} {l : List Nd} {v : Value} (h : PTree S F w l v) (hS : ∀ b, S b → S' b) (hF : ∀ k m, F k m → G k m) : PTree S' G w l v := by
  induction h with
  | mk R l A c hl hc hcell hs hn hkn hat hkids ih => exact .mk R l A c hl hc (hcell.mono hS) (fun r hr => hS _ (hs r hr)) hn (fun r hr => (hkn r hr).mono hF) (fun r hr => (hat r hr).mono hS) ih
theorem PTree.nil (S : Nat → Prop) (F : Nat → Nat → Prop) (w : World) : PTree S F w [] (.slice none 0 0) := .mk [] [] none 0 rfl (Nat.le_refl _) (Cells.nil _ _ _) (by simp) (by simp) (by simp) (by simp) (by simp)
theorem PTree.shape {S : Nat → Prop} {F : Nat → Nat → Prop} {w : World} {l : List Nd} {v : Value} (h : PTree S F w l v) : ∃ A c, v = .slice A l.length c ∧ l.length ≤ c := by
  cases h with
  | mk R l A c hl hc hcell hS hn hkn hat hkids => exact ⟨A, c, rfl, hc⟩
theorem PTree.at_ {S : Nat → Prop} {F : Nat → Nat → Prop} {w : World} {l : List Nd} {A : Option Addr} {n c : Nat} (h : PTree S F w l (.slice A n c)) {k : Nat} (hk : k < l.length) :
    ∃ b o r, A = some ⟨b, o, none⟩ ∧ S b ∧ w.cell? ⟨b, o + k, none⟩ = some (pcell r.g) ∧ l[k]? = some r.n ∧ POne S F w r := by
  cases h with
  | mk R l A c hl hc hcell hS hn hkn hat hkids =>
    subst hl
    rw [List.length_map] at hk
    obtain ⟨b, o, rfl, hb, hx⟩ := hcell (by rw [List.length_map]; omega)
    obtain ⟨r, hr⟩ : ∃ r, R[k]? = some r := ⟨_, List.getElem?_eq_getElem hk⟩
    have hm := List.mem_of_getElem? hr
    exact ⟨b, o, r, rfl, hb, hx k _ (by rw [List.getElem?_map, hr]; rfl), by rw [List.getElem?_map, hr]; rfl, ⟨hS r hm, hn r hm, hkn r hm, hat r hm, hkids r hm⟩⟩
theorem POne.keep {S : Nat → Prop} {F : Nat → Nat → Prop} {w w' : World} {r : Rp} (h : POne S F w r) (hk : KeptB S F w w') : POne S F w' r :=
  ⟨h.inS, h.nd.keep hk.cell h.inS, h.kn.keep hk, h.at_.keep hk.cell, h.kids.keep hk⟩
theorem POne.mono {S S' : Nat → Prop} {F G : Nat → Nat → Prop} {w : World} {r : Rp} (h : POne S F w r) (hS : ∀ b, S b → S' b) (hF : ∀ k m, F k m → G k m) : POne S' G w r :=
  ⟨hS _ h.inS, h.nd, h.kn.mono hF, h.at_.mono hS, h.kids.mono hS hF⟩
/-- Nodes one by one, and the row that points to them. -/
theorem PTree.of {S : Nat → Prop} {F : Nat → Nat → Prop} {w : World} (R : List Rp) (A : Option Addr) (n c : Nat) (hn : n = R.length) (hc : R.length ≤ c) (hcell : Cells S w A (R.map fun r => pcell r.g)) (h : ∀ r ∈ R, POne S F w r) : PTree S F w (R.map Rp.n) (.slice A n c) := by
  have := PTree.mk (S := S) (F := F) (w := w) R (R.map Rp.n) A c rfl (by rw [List.length_map]; exact hc) hcell (fun r hr => (h r hr).inS) (fun r hr => (h r hr).nd) (fun r hr => (h r hr).kn) (fun r hr => (h r hr).at_) (fun r hr => (h r hr).kids)
  rw [List.length_map] at this
  rw [hn]
  exact this

/-! ### attributes in new memory -/
/-- They may be written. -/
def FreeA (w : World) (v : Value) : Prop := ∀ b o n c, v = .slice (some ⟨b, o, none⟩) n c → ∃ cur, w.heap[b]? = some (.cells cur 39 (0, 0))
theorem FreeA.nil (w : World) : FreeA w (.slice none 0 0) := fun b o n c h => by cases h
theorem FreeA.calm {F : Nat → Nat → Prop} {w w' : World} {v : Value} (h : FreeA w v) (hc : Calm F w w') : FreeA w' v := fun b o n c hv => by
  obtain ⟨cur, hb⟩ := h b o n c hv
  exact ⟨cur, hc.same hb fun c fz e => by injection e with _ e; exact absurd e (by decide)⟩
theorem FreeA.grown {w w' : World} {v : Value} {row : Option Nat} (h : FreeA w v) (hg : w.grownBy w' row) (hr : ∀ g, row = some g → ∃ cur, w.heap[g]? = some (.cells cur 37 (0, 0))) : FreeA w' v := fun b o n c hv => by
  obtain ⟨cur, hb⟩ := h b o n c hv
  refine ⟨cur, (hg.block b (Array.getElem?_eq_some_iff.1 hb).1 fun e => ?_).trans hb⟩
  obtain ⟨c2, h2⟩ := hr b e.symm
  rw [hb] at h2
  injection h2 with h2
  injection h2 with _ h2
  exact absurd h2 (by decide)

set_option maxHeartbeats 1000000 in
set_option maxRecDepth 100000 in
theorem fresh_any (l : List (ByteArray × ByteArray)) (va : Value) (w : World) (hA : AttrsAt (· < w.heap.size) w l va) (hz : l.length ≤ 1000000) :
    Calls Try.prog 37 #[va] w fun e w' => ∃ A c, e = .returned (.slice A l.length c) ∧ AttrsAt (fun b => w.heap.size ≤ b ∧ b < w'.heap.size) w' l (.slice A l.length c) ∧ FreeA w' (.slice A l.length c) ∧ Below w.heap.size w w' := by
  obtain ⟨A, c, rfl, hc, hx⟩ := hA
  have HRUN : ∃ A' c' w', (Builtin.append_ #[32, 32] 32 #[.slice none 0 0, .slice A l.length c]).run Try.prog w = .ok (.slice A' l.length c') w' ∧ AttrsAt (fun b => w.heap.size ≤ b ∧ b < w'.heap.size) w' l (.slice A' l.length c') ∧ FreeA w' (.slice A' l.length c') ∧ Below w.heap.size w w' := by
    rcases Nat.eq_zero_or_pos l.length with h0 | h0
    · obtain rfl : l = [] := List.eq_nil_of_length_eq_zero h0
      refine ⟨none, 0, w, ?_, AttrsAt.nil _ _, FreeA.nil _, Below.refl _ _⟩
      cases A with
      | none => kernel_rfl
      | some a => kernel_rfl
    · obtain ⟨i0, hi, hz0, hz1, hz2⟩ := info_parts info_attr
      obtain ⟨b, o, rfl, hb, hcell⟩ := hx (by rw [acells_length]; omega)
      obtain ⟨v', w', hrun, own', hgr, _⟩ := run_append_new (w := w) w.heap.size 32 32 39 i0 _ 2 32 Try.underlying32 hi hz0 hz1 hz2 rfl (by decide) (.slice none 0 0) 0 [] (World.ownsRow_nil _ _ _ _) ⟨b, o, none⟩ l.length c (acells l) (acells_length l) (fun j u hj => by
        rw [show (⟨b, o, none⟩ : Addr).add j = ⟨b, o + j, none⟩ by simp [Addr.add]]
        exact hcell j u hj) (fun u hu => by
        unfold acells at hu
        rw [List.mem_flatMap] at hu
        obtain ⟨a, _, hu⟩ := hu
        simp only [List.mem_cons, List.not_mem_nil, or_false] at hu
        rcases hu with rfl | rfl <;> rfl) (by unfold maxLen; omega) (by omega) (Nat.le_refl _)
      rw [Nat.zero_add, List.nil_append] at own'
      obtain ⟨A', c', rfl, hc'⟩ := own_size own'
      refine ⟨A', c', w', hrun, ⟨A', c', rfl, hc', (Cells.own own').mono fun b hb => own'.lt b hb⟩, fun b o n c hv => ?_, ⟨hgr.os, hgr.tape, hgr.output, hgr.size, fun k hk => hgr.block k hk (by simp [Value.ownBlock])⟩⟩
      injection hv with e1 e2 e3
      subst e1
      rcases own'.2 with ⟨h1, _⟩ | ⟨g, cap, cur, h1, _, h2, _⟩
      · cases h1
      · injection h1 with h1
        injection h1 with h1
        injection h1 with h1
        subst h1
        exact ⟨cur, h2⟩
  obtain ⟨A', c', w', hrun, hat, hfr, hb⟩ := HRUN
  have HE := Lib.hid (And.intro hat (And.intro hfr hb))
  clear hat hfr hb hx
  go_enter Try.func37, Try.ntmps37
  go_wp2_with (at_builtin; refine wpList_run_append2 rfl _ _ rfl _ _ _ rfl rfl hrun ?_)
  go_ret
  exact ⟨A', c', rfl, HE.out.1, HE.out.2.1, HE.out.2.2⟩

/-! ### nodes that are told -/
/-- A list of nodes of the call's own, whose attributes may be written. -/
def OwnF (w : World) (base : Nat) (P : Nat → Prop) (l : List Nd) (v : Value) : Prop :=
  ∃ R : List Rn, R.map Rn.n = l ∧ w.ownsRow base 37 5 v R.length (ncells R) ∧ (∀ r ∈ R, AttrsAt (SubK P w v) w r.n.attrs r.va) ∧ (∀ r ∈ R, Tree (SubK P w v) w r.n.kids r.vk) ∧ ∀ r ∈ R, FreeA w r.va
theorem OwnF.nil (w : World) (base : Nat) (P : Nat → Prop) : OwnF w base P [] (.slice none 0 0) := ⟨[], rfl, World.ownsRow_nil _ _ _ _, by simp, by simp, by simp⟩
theorem OwnF.ownK {w : World} {base : Nat} {P : Nat → Prop} {l : List Nd} {v : Value} (h : OwnF w base P l v) : OwnK w base P l v := by
  obtain ⟨R, h1, h2, h3, h4, _⟩ := h
  exact ⟨R, h1, h2, h3, h4, fun g hg hs => hs.2.2 hg⟩
theorem ownsRow_calm {F : Nat → Nat → Prop} {w w' : World} {base size n : Nat} {e : TypeId} {v : Value} {xs : List Value} (h : w.ownsRow base e size v n xs) (hc : Calm F w w') (he : e ≠ 5) : w'.ownsRow base e size v n xs := by
  refine ⟨h.1, ?_⟩
  rcases h.2 with h | ⟨g, cap, cur, hv, hg, hh, r⟩
  · exact .inl h
  · exact .inr ⟨g, cap, cur, hv, hg, hc.same hh fun c fz e' => by injection e' with _ e'; exact he e', r⟩
theorem OwnF.calm {F : Nat → Nat → Prop} {w w' : World} {base : Nat} {P : Nat → Prop} {l : List Nd} {v : Value} (h : OwnF w base P l v) (hc : Calm F w w') : OwnF w' base P l v := by
  obtain ⟨R, h1, h2, h3, h4, h5⟩ := h
  have kp : Kept (SubK P w v) w w' := hc.kept fun b hb => hb.2.1
  have hS : ∀ b, SubK P w v b → SubK P w' v b := fun b hb => ⟨hb.1, Nat.lt_of_lt_of_le hb.2.1 hc.size, hb.2.2⟩
  exact ⟨R, h1, ownsRow_calm h2 hc (by decide), fun r hr => ((h3 r hr).keep kp).mono hS, fun r hr => ((h4 r hr).keep kp).mono hS, fun r hr => (h5 r hr).calm hc⟩
theorem OwnF.lt {w : World} {base : Nat} {P : Nat → Prop} {l : List Nd} {v : Value} (h : OwnF w base P l v) : ∀ g, v.ownBlock = some g → base ≤ g ∧ g < w.heap.size := OwnT.lt h.ownK
theorem OwnF.row {w : World} {base : Nat} {P : Nat → Prop} {l : List Nd} {v : Value} (h : OwnF w base P l v) : ∀ g, v.ownBlock = some g → ∃ cur, w.heap[g]? = some (.cells cur 37 (0, 0)) := by
  obtain ⟨R, _, h2, _⟩ := h
  intro g hg
  rcases h2.2 with ⟨hv, _⟩ | ⟨g', cap, cur, hv, _, hh, _⟩
  · rw [hv] at hg; cases hg
  · rw [hv] at hg
    injection hg with hg
    subst hg
    exact ⟨cur, hh⟩

/-- One node more. -/
theorem wpList_append_nodeF {w : World} {ops : Array Oper} {rest : List Oper} {o : Oper} {a : Act} {Q : Exit → Act → World → Prop} (hgd : o.guard = none) (s x : Operand)
    (ho : o.op = .call { callee := .builtin .append, args := #[s, x], argTypes := #[24, 24] })
    (base : Nat) (P : Nat → Prop) (l : List Nd) (v : Value) (hs : a.eval s = v) (h : OwnF w base P l v) (r : Rn) (ad : Addr) (c : Nat) (hx : a.eval x = .slice (some ad) 1 c)
    (hnews : ∀ j u, (ncells1 r)[j]? = some u → w.cell? (ad.add j) = some u) (hat : AttrsAt (SubK P w v) w r.n.attrs r.va) (hk : Tree (SubK P w v) w r.n.kids r.vk) (hfr : FreeA w r.va)
    (hlen : l.length ≤ 1000000) (hbase : base ≤ w.heap.size)
    (hK : ∀ v' w', OwnF w' base P (l ++ [r.n]) v' → w.grownBy w' v.ownBlock → wpList Try.prog ops Q rest (a.put o.dst v') w') :
    wpList Try.prog ops Q (o :: rest) a w := by
  have hrow := h.row
  obtain ⟨i0, hi, hz0, hz1, hz2⟩ := info_parts info_node
  obtain ⟨R, rfl, hown, hat0, hk0, hf0⟩ := h
  rw [List.length_map] at hlen
  obtain ⟨A1, c1, hva, _⟩ := id hat
  obtain ⟨A2, c2, hvk, _⟩ := hk.shape
  have h1 : ∀ u ∈ ncells1 r, u.oneCell' = true := by
    intro u hu
    simp only [ncells1, List.mem_cons, List.not_mem_nil, or_false] at hu
    rcases hu with rfl | rfl | rfl | rfl | rfl
    · rfl
    · rfl
    · rw [hva]; rfl
    · rfl
    · rw [hvk]; rfl
  obtain ⟨v', w', hrun, own', hgr, hnew⟩ := run_append_new (w := w) base 24 o.type 37 i0 _ 5 88 Try.underlying24 hi hz0 hz1 hz2 rfl (by decide) v R.length (ncells R) hown ad 1 c (ncells1 r) rfl hnews h1 (by unfold maxLen; omega) (by omega) hbase
  refine wpList_run_append2 hgd s x ho _ _ _ hs hx hrun ?_
  have hSS : ∀ b, SubK P w v b → SubK P w' v' b := by
    intro b hb
    refine ⟨hb.1, Nat.lt_of_lt_of_le hb.2.1 hgr.size, ?_⟩
    rcases hnew with e | e
    · rw [e]; exact hb.2.2
    · intro hg
      have := e b hg
      have := hb.2.1
      omega
  have kp : Kept (SubK P w v) w w' := Kept.grown hgr fun b hb => ⟨hb.2.1, fun e => hb.2.2 e.symm⟩
  refine hK v' w' ⟨R ++ [r], by simp, ?_, ?_, ?_, ?_⟩ hgr
  · rw [List.length_append, ncells_append]
    have : ncells [r] = ncells1 r := by simp [ncells]
    rw [this]
    exact own'
  · intro q hq
    rcases List.mem_append.1 hq with hq | hq
    · exact ((hat0 q hq).keep kp).mono hSS
    · simp at hq
      subst hq
      exact (AttrsAt.keep hat kp).mono hSS
  · intro q hq
    rcases List.mem_append.1 hq with hq | hq
    · exact ((hk0 q hq).keep kp).mono hSS
    · simp at hq
      subst hq
      exact (hk.keep kp).mono hSS
  · intro q hq
    rcases List.mem_append.1 hq with hq | hq
    · exact (hf0 q hq).grown hgr hrow
    · simp at hq
      subst hq
      exact hfr.grown hgr hrow

end Go.Proofs.Ytfdgmoakobjohaa

/- Part BldP. -/
namespace Go.Proofs.Ytfdgmoakobjohaa
set_option linter.unusedVariables false
set_option linter.unusedSimpArgs false

def onKids (g : List Nd → List Nd) (n : Nd) : Nd := .mk n.kind n.name n.attrs n.text (g n.kids)
/-- The list at a path's end, changed. -/
def updL : List Nat → (List Nd → List Nd) → List Nd → List Nd
  | [], g, l => g l
  | k :: p, g, l => match l[k]? with
    | none => l
    | some n => l.set k (onKids (updL p g) n)
/-- The list at a path's end. -/
def endL : List Nat → List Nd → List Nd
  | [], l => l
  | k :: p, l => match l[k]? with
    | none => []
    | some n => endL p n.kids
/-- The names along a path. -/
def openL : List Nat → List Nd → List ByteArray
  | [], _ => []
  | k :: p, l => match l[k]? with
    | none => []
    | some n => n.name :: openL p n.kids
/-- A path that there is. -/
def okP : List Nat → List Nd → Prop
  | [], _ => True
  | k :: p, l => ∃ n, l[k]? = some n ∧ okP p n.kids

/-- Open elements, the outermost first, as nodes. -/
def clF (h : List Nd → List Nd) : List Fr → List Nd → List Nd
  | [], out => h out
  | f :: r, out => out ++ [.mk 1 f.name f.attrs (tB []) (clF h r f.kids)]
def pathF : List Fr → List Nd → List Nat
  | [], _ => []
  | f :: r, out => out.length :: pathF r f.kids
def innF : List Fr → List Nd → List Nd
  | [], out => out
  | f :: r, _ => innF r f.kids

theorem at_end (out : List Nd) (n : Nd) : (out ++ [n])[out.length]? = some n := by simp
theorem set_end (out : List Nd) (n m : Nd) : (out ++ [n]).set out.length m = out ++ [m] := by simp

theorem upd_cl (h g : List Nd → List Nd) : ∀ (r : List Fr) (out : List Nd), updL (pathF r out) g (clF h r out) = clF (fun x => g (h x)) r out
  | [], out => rfl
  | f :: r, out => by
    show updL (out.length :: pathF r f.kids) g (out ++ [_]) = _
    unfold updL
    rw [at_end]
    show (out ++ [_]).set out.length (onKids _ (.mk 1 f.name f.attrs (tB []) (clF h r f.kids))) = _
    rw [set_end]
    show out ++ [.mk 1 f.name f.attrs (tB []) (updL (pathF r f.kids) g (clF h r f.kids))] = _
    rw [upd_cl h g r f.kids]
    rfl
theorem end_cl (h : List Nd → List Nd) : ∀ (r : List Fr) (out : List Nd), endL (pathF r out) (clF h r out) = h (innF r out)
  | [], out => rfl
  | f :: r, out => by
    show endL (out.length :: pathF r f.kids) (out ++ [_]) = _
    unfold endL
    rw [at_end]
    exact end_cl h r f.kids
theorem open_cl (h : List Nd → List Nd) : ∀ (r : List Fr) (out : List Nd), openL (pathF r out) (clF h r out) = r.map Fr.name
  | [], out => rfl
  | f :: r, out => by
    show openL (out.length :: pathF r f.kids) (out ++ [_]) = _
    unfold openL
    rw [at_end]
    show f.name :: openL (pathF r f.kids) (clF h r f.kids) = _
    rw [open_cl h r f.kids]
    rfl
theorem ok_cl (h : List Nd → List Nd) : ∀ (r : List Fr) (out : List Nd), okP (pathF r out) (clF h r out)
  | [], out => trivial
  | f :: r, out => ⟨_, at_end _ _, ok_cl h r f.kids⟩
theorem cl_snoc (h : List Nd → List Nd) (f : Fr) : ∀ (r : List Fr) (out : List Nd), clF h (r ++ [f]) out = clF (fun x => x ++ [.mk 1 f.name f.attrs (tB []) (h f.kids)]) r out
  | [], out => rfl
  | g :: r, out => by
    show out ++ [.mk 1 g.name g.attrs (tB []) (clF h (r ++ [f]) g.kids)] = _
    rw [cl_snoc h f r g.kids]
    rfl
theorem path_snoc (f : Fr) : ∀ (r : List Fr) (out : List Nd), pathF (r ++ [f]) out = pathF r out ++ [(innF r out).length]
  | [], out => rfl
  | g :: r, out => by
    show out.length :: pathF (r ++ [f]) g.kids = _
    rw [path_snoc f r g.kids]
    rfl
theorem path_len : ∀ (r : List Fr) (out : List Nd), (pathF r out).length = r.length
  | [], out => rfl
  | f :: r, out => by
    show (pathF r f.kids).length + 1 = _
    rw [path_len r f.kids]
    rfl

def pathB (s : Bst) : List Nat := pathF s.fs.reverse s.out
def idL (x : List Nd) : List Nd := x
theorem mstep_elt (l : List Nd) {n : Nd} (h : n.kind = 1) : mstep l n = l ++ [n] := mstep_app fun h2 => by rw [h] at h2; cases h2
theorem nodes_cl : ∀ (fs : List Fr) (out : List Nd), nodesB ⟨fs, out⟩ = clF idL fs.reverse out := by
  intro fs
  have key : ∀ (n : Nat) (fs : List Fr), fs.length = n → ∀ out, nodesB ⟨fs, out⟩ = clF idL fs.reverse out := by
    intro n
    induction n with
    | zero =>
      intro fs hl out
      have : fs = [] := List.length_eq_zero_iff.1 hl
      subst this
      rfl
    | succ n ih =>
      intro fs hl out
      match fs, hl with
      | [f], hl =>
        show mstep out (nodeOf f) = _
        rw [mstep_elt _ (by rfl)]
        rfl
      | f :: g :: gs, hl =>
        have h1 : nodesB ⟨f :: g :: gs, out⟩ = nodesB ⟨⟨g.name, g.attrs, mstep g.kids (nodeOf f)⟩ :: gs, out⟩ := rfl
        rw [h1, ih (⟨g.name, g.attrs, mstep g.kids (nodeOf f)⟩ :: gs) (by simpa using hl) out, List.reverse_cons, cl_snoc, List.reverse_cons, List.reverse_cons, cl_snoc, cl_snoc, mstep_elt _ (by rfl)]
        rfl
  exact key fs.length fs rfl
theorem nodes_cl' (s : Bst) : nodesB s = clF idL s.fs.reverse s.out := nodes_cl s.fs s.out
theorem nodes_pop (s : Bst) : nodesB (popB s) = nodesB s := by
  obtain ⟨fs, out⟩ := s
  cases fs with
  | nil => rfl
  | cons f fs =>
    show (popN (popB ⟨f :: fs, out⟩).fs.length (popB ⟨f :: fs, out⟩)).out = (popN fs.length (popB ⟨f :: fs, out⟩)).out
    have h := congrArg List.length (pop_names ⟨f :: fs, out⟩)
    rw [List.length_map, List.length_drop, List.length_map] at h
    rw [h]
    rfl
theorem nodes_popN : ∀ (n : Nat) (s : Bst), nodesB (popN n s) = nodesB s
  | 0, s => rfl
  | n + 1, s => by rw [show popN (n + 1) s = popN n (popB s) from rfl, nodes_popN n, nodes_pop]
theorem nodes_add (s : Bst) (n : Nd) : nodesB (addTo s n) = updL (pathB s) (mstep · n) (nodesB s) := by
  obtain ⟨fs, out⟩ := s
  rw [nodes_cl' ⟨fs, out⟩]
  unfold pathB
  rw [upd_cl]
  cases fs with
  | nil => rfl
  | cons f fs =>
    show nodesB ⟨⟨f.name, f.attrs, mstep f.kids n⟩ :: fs, out⟩ = clF _ (f :: fs).reverse out
    rw [nodes_cl, List.reverse_cons, cl_snoc, List.reverse_cons, cl_snoc]
    rfl
theorem path_add (s : Bst) (n : Nd) : pathB (addTo s n) = pathB s := by
  obtain ⟨fs, out⟩ := s
  cases fs with
  | nil => rfl
  | cons f fs =>
    show pathF (⟨f.name, f.attrs, mstep f.kids n⟩ :: fs).reverse out = pathF (f :: fs).reverse out
    rw [List.reverse_cons, path_snoc, List.reverse_cons, path_snoc]
theorem nodes_new (s : Bst) (nm : ByteArray) (at_ : List (ByteArray × ByteArray)) : nodesB ⟨⟨nm, at_, []⟩ :: s.fs, s.out⟩ = updL (pathB s) (mstep · (.mk 1 nm at_ (tB []) [])) (nodesB s) := by
  rw [nodes_cl, nodes_cl' s]
  unfold pathB
  rw [upd_cl, List.reverse_cons, cl_snoc]
  congr 1
theorem path_new (s : Bst) (nm : ByteArray) (at_ : List (ByteArray × ByteArray)) : pathB ⟨⟨nm, at_, []⟩ :: s.fs, s.out⟩ = pathB s ++ [(endL (pathB s) (nodesB s)).length] := by
  rw [nodes_cl' s]
  unfold pathB
  rw [end_cl, List.reverse_cons, path_snoc]
  try rfl
theorem opens_of (s : Bst) : openL (pathB s) (nodesB s) = s.fs.reverse.map Fr.name := by
  rw [nodes_cl' s]
  exact open_cl _ _ _
theorem ok_of (s : Bst) : okP (pathB s) (nodesB s) := by
  rw [nodes_cl' s]
  exact ok_cl _ _ _
theorem pathB_len (s : Bst) : (pathB s).length = s.fs.length := by
  unfold pathB
  rw [path_len, List.length_reverse]
theorem path_pop (s : Bst) : pathB (popB s) = (pathB s).take (s.fs.length - 1) := by
  obtain ⟨fs, out⟩ := s
  cases fs with
  | nil => rfl
  | cons f fs =>
    show pathB (addTo ⟨fs, out⟩ (nodeOf f)) = _
    rw [path_add]
    unfold pathB
    show pathF fs.reverse out = (pathF (f :: fs).reverse out).take _
    rw [List.reverse_cons, path_snoc, List.take_append_of_le_length (by rw [path_len, List.length_reverse]; simp), List.take_of_length_le (by rw [path_len, List.length_reverse]; simp)]
theorem pop_length (s : Bst) : (popB s).fs.length = s.fs.length - 1 := by
  have h := congrArg List.length (pop_names s)
  rwa [List.length_map, List.length_drop, List.length_map] at h
theorem path_popN : ∀ (n : Nat) (s : Bst), pathB (popN n s) = (pathB s).take (s.fs.length - n)
  | 0, s => by
    show pathB s = _
    rw [List.take_of_length_le (by rw [pathB_len]; omega)]
  | n + 1, s => by
    rw [show popN (n + 1) s = popN n (popB s) from rfl, path_popN n, path_pop, List.take_take, pop_length]
    congr 1
    omega

/-- Glueing an empty text changes nothing. -/
theorem mstep_glue (l : List Nd) (n : Nd) (h : n.kind = 2) (hl : lastText l = true) : mstep l n = mglue l n.text := by
  unfold mstep
  by_cases h0 : n.text.data.toList = []
  · rw [if_pos ⟨h, h0⟩]
    obtain ⟨m, x, rfl⟩ := snoc_of (l := l) (by cases l with | nil => simp [lastText] at hl | cons a l => simp)
    rw [mglue_snoc]
    have e : n.text = tB [] := tB_eq h0
    have e2 : x.text ++ n.text = x.text := by
      rw [e]
      exact ByteArray.append_empty
    rw [e2]
    cases x
    rfl
  · rw [if_neg (fun hh => h0 hh.2), if_pos ⟨h, hl⟩]

theorem tw_count {α : Type} (p : α → Bool) : ∀ (l : List α) (j : Nat), j ≤ l.length → (∀ i x, i < j → l[i]? = some x → p x = true) → (∀ x, l[j]? = some x → p x = false) → (l.takeWhile p).length = j
  | [], j, hj, _, _ => by simp at hj; subst hj; rfl
  | a :: l, 0, _, _, h => by
    have := h a rfl
    simp [List.takeWhile, this]
  | a :: l, j + 1, hj, h1, h2 => by
    have h0 := h1 0 a (by omega) rfl
    rw [List.takeWhile_cons, h0, if_pos rfl, List.length_cons]
    rw [tw_count p l j (by simpa using hj) (fun i x hi hx => h1 (i + 1) x (by omega) (by simpa using hx)) (fun x hx => h2 x (by simpa using hx))]

end Go.Proofs.Ytfdgmoakobjohaa
