/- refs.Decode: its walk. -/
import Derived.Test.YtillpoaobcdlmaaRefC
import Derived.Shelf.Strings.BuilderCap
namespace Go.Proofs.Ytillpoaobcdlmaa
open Go.RowKit
set_option linter.unusedVariables false

theorem builderAt_below {T e : TypeId} {B b : Nat} {p : Value} {bs : List Value} {W W' : World} (h : Lib.BuilderAtF T e B b p bs W) (hb : Below W.heap.size W W') : Lib.BuilderAtF T e B b p bs W' := by
  have hlt := h.lt
  obtain ⟨hB, v, hv, hown, hne⟩ := h
  exact ⟨hB, v, (hb.block b hlt).trans hv, hown.kept (row := none) ⟨hb.os, hb.tape, hb.output, hb.size, fun k hk _ => hb.block k hk⟩ (Classical.em _), hne⟩
/-- A builder stays, behind a call that only makes new blocks. -/
theorem builder_below {T e : TypeId} {B b : Nat} {bs : List Value} {W W' : World} (h : Lib.IsBuilderF T e B b bs W) (hb : Below W.heap.size W W') : Lib.IsBuilderF T e B b bs W' :=
  h.elim (fun x => .inl (builderAt_below x hb)) (fun x => .inr (builderAt_below x hb))

theorem index_none : ∀ {l : List UInt8} {c : UInt8}, Lib.indexByte l c < 0 → ∀ x ∈ l, x ≠ c
  | [], c, _ => by simp
  | b :: l, c, h => by
    unfold Lib.indexByte at h
    have hge := Lib.indexByte_ge l c
    split at h
    · omega
    · rename_i hb
      split at h
      · rename_i h1
        intro x hx
        rcases List.mem_cons.1 hx with rfl | hx
        · intro e; apply hb; simp [e]
        · exact index_none (l := l) (by have := eq_of_beq h1; omega) x hx
      · rename_i h1
        have : Lib.indexByte l c ≠ -1 := fun e => h1 (by simp [e])
        omega

theorem index_some : ∀ {l : List UInt8} {c : UInt8}, 0 ≤ Lib.indexByte l c → ∃ p q, l = p ++ c :: q ∧ Lib.indexByte l c = p.length ∧ ∀ x ∈ p, x ≠ c
  | [], c, h => by simp [Lib.indexByte] at h
  | b :: l, c, h => by
    by_cases hb : b = c
    · subst hb
      exact ⟨[], l, rfl, by simp [Lib.indexByte], by simp⟩
    · have hb' : (b == c) = false := by simp [hb]
      have e : Lib.indexByte (b :: l) c = if Lib.indexByte l c == -1 then -1 else Lib.indexByte l c + 1 := by
        conv => lhs; unfold Lib.indexByte
        rw [hb']
        rfl
      rw [e] at h ⊢
      have hge := Lib.indexByte_ge l c
      by_cases h1 : Lib.indexByte l c = -1
      · rw [h1] at h; simp at h
      · have h1' : (Lib.indexByte l c == -1) = false := by simp [h1]
        obtain ⟨p, q, hl, hi, hp⟩ := index_some (l := l) (c := c) (by omega)
        refine ⟨b :: p, q, by rw [hl]; rfl, ?_, ?_⟩
        · rw [h1', hi]; simp
        · intro x hx
          rcases List.mem_cons.1 hx with rfl | hx
          · exact hb
          · exact hp x hx

structure DecAt (w1 wr : World) (t : ByteArray) (l acc : List UInt8) : Prop where
  is : decB l = acc ++ decB t.data.toList
  len : acc.length + t.size ≤ l.length
  bu : Lib.IsBuilderF 36 5 w1.heap.size w1.heap.size (Lib.byteCells acc) wr
  bel : Below w1.heap.size w1 wr

set_option maxHeartbeats 4000000 in
set_option maxRecDepth 100000 in
theorem decode_any (s : ByteArray) (w : World) (hm : s.size ≤ 100000) :
    Calls Try.prog 11 #[.string s] w fun e w' => e = .returned (.string ⟨(decB s.data.toList).toArray⟩) ∧ Below w.heap.size w w' := by
  obtain ⟨l, hl⟩ : ∃ l, s.data.toList = l := ⟨_, rfl⟩
  have hsz : s.size = l.length := by rw [← hl]; simp
  have HSL := Lib.hid hl
  have HSZ := Lib.hid hsz
  have hc := contains_any s w (by omega)
  rw [hl] at hc ⊢
  by_cases hi : 0 ≤ Lib.indexByte l 38
  · rw [decide_eq_true hi] at hc
    have HC := Lib.hid hc
    clear hl hsz hc hi
    go_enter Try.func11, Try.ntmps11
    go_wp2_with fail
    refine HC.out.mono ?_
    rintro e w' ⟨rfl, rfl⟩
    go_wp2_with fail
    refine (names_any _).mono ?_
    rintro e w1 ⟨B, rfl, hN, hb1⟩
    have HNm := Lib.hid hN
    clear hN
    go_wp2_with fail
    refine (Try.Builder_Grow_fresh w1.heap.size w1.heap.size s.size _ (Nat.le_refl _) (heap_alloc_new w1 _) (by simp) (by omega)).mono ?_
    rintro e w2 ⟨rfl, hbu, hb2⟩
    have hB2 : Below w1.heap.size w1 w2 := ((Below.refl _ w1).alloc (Nat.le_refl _) _).trans hb2
    have hI2 : Lib.IsBuilderF 36 5 w1.heap.size w1.heap.size (Lib.byteCells []) w2 := Lib.IsBuilderF.of (Or.inr hbu)
    clear hbu hb2
    go_wp2_with fail
    go_loopw [0] (fun x wr => ∃ (t : ByteArray) (acc : List UInt8), x = .string t ∧ DecAt w1 wr t l acc) (fun x _ => match x with | .string t => t.size | _ => 0)
    case atStart => exact ⟨s, [], rfl, by rw [HSL.out]; rfl, by rw [HSZ.out]; simp, hI2, hB2⟩
    case round =>
      obtain ⟨t, acc, rfl, HR⟩ := hrel
      have hlen := HR.len
      have hll : l.length ≤ 100000 := by rw [← HSZ.out]; exact hm
      obtain ⟨rest, hrest⟩ : ∃ r, t.data.toList = r := ⟨_, rfl⟩
      have hts : t.size = rest.length := by rw [← hrest]; exact str_list t
      have HT := Lib.hid hrest
      have HTZ := Lib.hid hts
      have hix := Try.strings_IndexByte t 38 wr
      rw [hrest] at hix
      have h38 : (38 : Int).toNat.toUInt8 = 38 := rfl
      rw [h38] at hix
      have hsl' : s.size ≤ 100000 := hm
      have hts' : t.size ≤ 100000 := by omega
      by_cases hneg : Lib.indexByte rest 38 < 0
      · have hF := decB_none (index_none hneg)
        obtain ⟨i, hi⟩ : ∃ i, Lib.indexByte rest 38 = i := ⟨_, rfl⟩
        rw [hi] at hix hneg
        have HIX := Lib.hid hix
        have HF := Lib.hid (show decB l = acc ++ rest by rw [HR.is, HT.out, hF])
        have hlo := Lib.indexByte_ge rest 38
        rw [hi] at hlo
        clear hrest hts hix h38 hi hF
        go_wp2_with fail
        refine HIX.out.mono ?_
        rintro e w3 ⟨rfl, rfl⟩
        go_wp2_with fail
        refine (Try.Builder_WriteString_k w1.heap.size w1.heap.size _ t _ HR.bu (by rw [Lib.byteCells_length]; omega) HR.bel.size).mono ?_
        rintro e w4 ⟨rfl, h4, b4, _⟩
        have hB4 := HR.bel.trans b4
        rw [Lib.strCells_eq, HT.out, ← Lib.byteCells_append] at h4
        go_wp2_with fail
        refine (Try.Builder_String_any_k w1.heap.size w1.heap.size _ _ (Or.inr h4) hB4.size).mono ?_
        rintro e w5 ⟨rfl, _, b5, _⟩
        have hB5 := below_after hb1 (hB4.trans b5)
        go_wp2_with fail
        go_ret
        rw [HF.out]
        exact ⟨rfl, hB5⟩
      · obtain ⟨p, q, hpq, hi, hp⟩ := index_some (l := rest) (c := 38) (by omega)
        rw [hi] at hix
        have HIX := Lib.hid hix
        obtain ⟨k, hk⟩ : ∃ k, p.length = k := ⟨_, rfl⟩
        have hplen : rest.length = k + (q.length + 1) := by rw [hpq]; simp; omega
        have hkt : (k : Int) ≤ (t.size : Int) := by omega
        have hkt2 : k < t.size := by omega
        have ht1 : (t.extract 0 k).data.toList = p := by rw [take_extract, HT.out, hpq, ← hk]; simp
        have ht1z : (t.extract 0 k).size = k := by rw [ByteArray.size_extract]; omega
        obtain ⟨t2, ht2⟩ : ∃ t2, t.extract k t.size = t2 := ⟨_, rfl⟩
        have ht2l : t2.data.toList = 38 :: q := by rw [← ht2, drop_extract, HT.out, hpq, ← hk]; simp
        have ht2z : t2.size = q.length + 1 := by rw [str_list, ht2l]; simp
        have hdec : decB l = (acc ++ p) ++ decB (38 :: q) := by rw [HR.is, HT.out, hpq, decB_skip p _ hp, List.append_assoc]
        have HDC := Lib.hid hdec
        have H1L := Lib.hid ht1
        have H1Z := Lib.hid ht1z
        have H2 := Lib.hid ht2
        have H2L := Lib.hid ht2l
        have H2Z := Lib.hid ht2z
        have HK := Lib.hid hk
        have hq1 : q.length + 1 ≤ 100000 := by omega
        have hle4 : t2.size ≤ t.size := by rw [ht2z]; omega
        have hle3 : acc.length + k + (q.length + 1) ≤ l.length := by omega
        rw [hk] at HIX
        obtain ⟨⟨r, n⟩, ho⟩ : ∃ o, oneB (38 :: q) = o := ⟨_, rfl⟩
        have hfact := one_fact (38 :: q)
        have hamp := decB_amp (t := q)
        have href := decB_ref (t := q)
        rw [ho] at hfact hamp href
        simp only at hfact hamp href
        have HO := Lib.hid ho
        have HFC := Lib.hid hfact
        have HAMP := Lib.hid hamp
        have HREF := Lib.hid href
        clear ho hfact hamp href
        clear hrest hts hix h38 hi hneg hpq hplen ht1 ht1z ht2 ht2l ht2z hdec hp hk hlen
        go_wp2_with fail
        refine HIX.out.mono ?_
        rintro e w3 ⟨rfl, rfl⟩
        go_wp2_with fail
        refine (Try.Builder_WriteString_k w1.heap.size w1.heap.size _ (t.extract 0 k) _ HR.bu (by rw [Lib.byteCells_length, H1Z.out]; omega) HR.bel.size).mono ?_
        rintro e w4 ⟨rfl, h4, b4, _⟩
        have hB4 := HR.bel.trans b4
        rw [Lib.strCells_eq, H1L.out, ← Lib.byteCells_append] at h4
        have H4 := Lib.hid h4
        clear h4 b4
        go_wp2_with fail
        rw [H2.out]
        go_wp2_with fail
        refine (rone_any t2 B _ (by rw [H2Z.out]; omega) (HNm.out.below hB4)).mono ?_
        rw [H2L.out, HO.out]
        rintro e w5 ⟨rfl, b5⟩
        have hB5 := below_after hB4 b5
        have H5 := Lib.hid (builder_below (Or.inr H4.out) b5)
        clear b5 hB4
        have ht21 : (1 : Int) ≤ (t2.size : Int) := by have := H2Z.out; omega
        have ht22 : t2.size ≤ 100000 := by have := H2Z.out; omega
        have hnn : 0 ≤ (n : Int) := by omega
        by_cases h0 : n = 0
        · have HE := Lib.hid (HAMP.out h0)
          subst h0
          go_wp2_with fail
          refine (Try.Builder_WriteByte_k w1.heap.size w1.heap.size _ 38 _ H5.out (by rw [Lib.byteCells_length, List.length_append, HK.out]; omega) hB5.size).mono ?_
          rintro e w6 ⟨rfl, h6, b6, _⟩
          have hB6 := hB5.trans b6
          have H6 := Lib.hid h6
          clear h6 b6
          go_wp2_with fail
          go_roundw
          case rel =>
            refine ⟨t2.extract 1 t2.size, (acc ++ p) ++ [38], rfl, ?_, ?_, ?_, hB6⟩
            · rw [HDC.out, HE.out, drop_extract, H2L.out]; simp
            · rw [ByteArray.size_extract, List.length_append, List.length_append, HK.out]
              have := H2Z.out
              simp
              omega
            · rw [Lib.byteCells_append]; exact Or.inr H6.out
          case measure => simp only [ByteArray.size_extract, Nat.min_self]; omega
        · have HE := Lib.hid (HREF.out h0)
          have hf := HFC.out h0
          have hn1 : n ≤ t2.size := by have := hf.2.2.2.1; have := H2Z.out; simp at *; omega
          have hn1' : (n : Int) ≤ (t2.size : Int) := by omega
          have hn4 := hf.2.1
          have hr0 : -2147483648 ≤ r ∧ r ≤ 2147483647 := by have := hf.1.1; unfold okR at this; omega
          have BN : ((n : Int) == 0) = false := by simp; omega
          clear h0 hf
          go_wp2_with fail
          refine (Try.Builder_WriteRune_k w1.heap.size w1.heap.size _ r hr0.1 hr0.2 _ H5.out (by rw [Lib.byteCells_length, List.length_append, HK.out]; omega) hB5.size).mono ?_
          rintro e w6 ⟨rfl, h6, b6, _⟩
          have hB6 := hB5.trans b6
          have H6 := Lib.hid h6
          clear h6 b6
          go_wp2_with fail
          go_roundw
          case rel =>
            refine ⟨t2.extract n t2.size, (acc ++ p) ++ Lib.encodeRune r, rfl, ?_, ?_, ?_, hB6⟩
            · rw [HDC.out, HE.out, drop_extract, H2L.out]; simp
            · rw [ByteArray.size_extract, List.length_append, List.length_append, HK.out]
              have := H2Z.out
              have := encodeRune_le r
              simp
              omega
            · rw [Lib.byteCells_append, Lib.byteCells_encodeRune]; exact Or.inr H6.out
          case measure => simp only [ByteArray.size_extract, Nat.min_self]; omega
  · rw [decide_eq_false hi] at hc
    have HC := Lib.hid hc
    have HF := Lib.hid (show (⟨(decB l).toArray⟩ : ByteArray) = s by rw [decB_none (index_none (by omega)), ← hl])
    clear hl hsz hc hi
    go_enter Try.func11, Try.ntmps11
    go_wp2_with fail
    refine HC.out.mono ?_
    rintro e w' ⟨rfl, rfl⟩
    go_wp2_with fail
    refine (clone_any s _ (by omega)).mono ?_
    rintro e w' ⟨rfl, hb⟩
    go_wp2_with fail
    go_ret
    rw [HF.out]
    exact ⟨rfl, hb⟩

end Go.Proofs.Ytillpoaobcdlmaa
