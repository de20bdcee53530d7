/- strainerlaw03.DomGood: its walk. -/
import Derived.Test.YthiibcjahmokpaaDomE
import Derived.Test.YthiibcjahmokpaaDomV
import Derived.Test.YthiibcjahmokpaaRightR
namespace Go.Proofs.Ythiibcjahmokpaa
open Go.RowKit
set_option linter.unusedVariables false

theorem allP_ok {l : List Nd} (h : DomOK l) (hs : szL l ≤ 100000) : AllP PM l := by
  refine .mk l (fun i n hn => ⟨hs, fun m hm => ?_⟩) (fun i n hn => ?_)
  · obtain ⟨hp, h2⟩ := h i m hm
    have h3 := szL_at hm
    rw [szN_eq] at h3
    exact .inl ⟨hp, by omega, h2⟩
  · rw [(h i n hn).1.kids]
    exact .mk [] (by simp) (by simp)

theorem rightT_any (A : Option Addr) (c : Nat) (s : ByteArray) (w : World) (hs : Sits w w.heap.size A (Lib.byteCells s.data.toList)) (hc : s.size ≤ c) (hm : s.size ≤ 1000000) :
    Calls Try.prog 4 #[.slice A s.size c] w fun e w' => ∃ u : ByteArray, e = .returned (.string u) ∧ okT u.data.toList ∧ u.size ≤ 4 * s.size ∧ Below w.heap.size w w' := by
  rw [str_list] at hc hm ⊢
  refine (rightR_any A c s.data.toList w hs hc hm).mono ?_
  rintro e w' ⟨rfl, hb⟩
  exact ⟨_, rfl, okT_right _, right_len _, hb⟩

theorem sits_now (W : World) (s : ByteArray) (cap : Nat) :
    Sits (W.alloc (.cells (bytesRow s cap) 5 ((bytesRow s cap).size, (bytesRow s cap).size + 1))).drew (W.alloc (.cells (bytesRow s cap) 5 ((bytesRow s cap).size, (bytesRow s cap).size + 1))).drew.heap.size (some ⟨W.heap.size, 0, none⟩) (Lib.byteCells s.data.toList) := by
  simpa using sits_new W s cap

theorem bytes_of (W : World) (s : ByteArray) : (convert 9 25 (.string s)).run Try.prog W = .ok (.slice (some ⟨W.heap.size, 0, none⟩) s.size (grownCap W s.size 0 5))
    (W.alloc (.cells (bytesRow s (grownCap W s.size 0 5)) 5 ((bytesRow s (grownCap W s.size 0 5)).size, (bytesRow s (grownCap W s.size 0 5)).size + 1))).drew :=
  run_bytes_of_string W 9 25 5 s Try.underlying9 Try.underlying25 Try.underlying5
/-- '[]byte(s)', once: where it lies, what it holds. -/
theorem bytes_at (W : World) (s : ByteArray) : ∃ (c : Nat) (W' : World), (convert 9 25 (.string s)).run Try.prog W = .ok (.slice (some ⟨W.heap.size, 0, none⟩) s.size c) W' ∧ s.size ≤ c ∧
    Sits W' W'.heap.size (some ⟨W.heap.size, 0, none⟩) (Lib.byteCells s.data.toList) ∧ Below W.heap.size W W' :=
  ⟨_, _, bytes_of W s, grownCap_ge _ _ _ _, sits_now W s _, alloc_drew_below W _⟩

theorem cut20 (s : ByteArray) : (if 20 < s.size then s.extract 0 20 else s).size ≤ 20 := by
  split
  · rw [ByteArray.size_extract]
    omega
  · omega

structure GlAt (w wr : World) (ls : List ByteArray) (i : Nat) (v : Value) (out : List Nd) : Prop where
  le : i ≤ ls.length
  l6 : i ≤ 6
  own : OwnC wr w.heap.size w.heap.size out v
  ok : ∀ n ∈ out, PN n
  sz : szL out ≤ 110 * i
  bel : Below w.heap.size w wr
def GlRel (w : World) (ls : List ByteArray) (x y : Value) (wr : World) : Prop := ∃ (i : Nat) (out : List Nd), y = .int .i64 i ∧ GlAt w wr ls i x out

theorem pn_snoc {out : List Nd} {n : Nd} (h : ∀ n ∈ out, PN n) (hn : PN n) : ∀ m ∈ out ++ [n], PN m := by
  intro m hm
  rcases List.mem_append.1 hm with hm | hm
  · exact h m hm
  · simp at hm; subst hm; exact hn

set_option maxHeartbeats 2000000 in
set_option maxRecDepth 100000 in
theorem domGood_end (A : Option Addr) (n c : Nat) (ls : List ByteArray) (w : World) (hs : Cells (· < w.heap.size) w A (ls.map Value.string)) (hn : n = ls.length) (hc : n ≤ c) (hm : n ≤ maxLen) (hz : ∀ s ∈ ls, s.size ≤ maxLen) :
    Calls Try.prog 3 #[.slice A n c] w fun e w' => e = .returned (.bool true) ∧ Below w.heap.size w w' := by
  subst hn
  have hmx : ls.length ≤ 9223372036854775807 := by unfold maxLen at hm; omega
  have HS := Lib.hid hs
  have HZ := Lib.hid hz
  clear hs hz hm
  go_enter Try.func3, Try.ntmps3
  go_wp2_with fail
  go_loopw [3, 4] (fun x y wr => GlRel w ls x y wr) (fun _ y _ => ls.length - (intOf y).toNat)
  case atStart => exact ⟨0, [], rfl, by omega, by omega, OwnC.nil _ _ _, by simp, by simp [szL], Below.refl _ _⟩
  case round =>
    obtain ⟨i, out, rfl, HR⟩ := hrel
    have hi := HR.le
    have hi6 := HR.l6
    have hbel := HR.bel
    have hol := szL_len out
    have hos := HR.sz
    obtain ⟨A', c'', hv', hc''⟩ := OwnT.shape HR.own
    subst hv'
    by_cases hlt : i < ls.length ∧ i < 6
    · obtain ⟨hl1, hl2⟩ := hlt
      obtain ⟨b, o, hA, hb, hcl⟩ := HS.out (by rw [List.length_map]; omega)
      subst hA
      obtain ⟨s, hsi⟩ : ∃ s, ls[i]? = some s := ⟨_, List.getElem?_eq_getElem hl1⟩
      have q0 : wr.cell? ⟨b, o + i, none⟩ = some (.string s) := (hbel.cell (p := ⟨b, o + i, none⟩) hb).trans (hcl i _ (by rw [List.getElem?_map, hsi]; rfl))
      have hssz := HZ.out s (List.mem_of_getElem? hsi)
      unfold maxLen at hssz
      have HOWN := Lib.hid (fun W (hb : Below wr.heap.size wr W) ob => OwnC.later (OwnC.later HR.own hb) (below_new W ob))
      have HR' := Lib.hid HR
      obtain ⟨q, hq⟩ : ∃ q, ((i : Int) % 3 == 2) = q := ⟨_, rfl⟩
      clear hcl hsi HR
      obtain ⟨t, hte⟩ : ∃ t, (if 20 < s.size then s.extract 0 20 else s) = t := ⟨_, rfl⟩
      have hts : t.size ≤ 20 := by rw [← hte]; exact cut20 s
      obtain ⟨cb, wb, hcv, hcb, hsb, hbb⟩ := bytes_at wr t
      have HRT := Lib.hid (rightT_any _ _ t wb hsb hcb (by omega))
      have HBB := Lib.hid hbb
      clear hsb hbb
      by_cases h20 : 20 < s.size
      case' pos => rw [if_pos h20] at hte
      case' neg =>
        rw [if_neg h20] at hte
        subst hte
      all_goals
        cases q with
        | false =>
          go_wp2_with fail
          refine HRT.out.mono ?_
          rintro e w5 ⟨u, rfl, hu, hus, hb5⟩
          have hB5 := below_after HBB.out hb5
          have hwr : w.heap.size ≤ w5.heap.size + 1 := by have := hbel.size; have := hB5.size; omega
          go_wp2_with (at_builtin; refine wpList_append_node rfl _ _ rfl w.heap.size w.heap.size out _ rfl (HOWN.out w5 hB5 _) ⟨pn 2 u, .slice none 0 0, .slice none 0 0⟩ ⟨w5.heap.size, 0, none⟩ 1 rfl (new_five _ _ ⟨pn 2 u, .slice none 0 0, .slice none 0 0⟩) (AttrsAt.nil _ _) (Tree.nil _ _) (by omega) (by simpa using hwr) ?_; intro v' w6 hown' hgrow)
          have hB6 : Below w.heap.size w w6 := ((hbel.trans (hB5.mono hbel.size)).alloc (by have := hbel.size; have := hB5.size; omega) _).grown hgrow (by simpa using hwr) (fun g hg => (OwnT.lt (HOWN.out w5 hB5 (.cells #[] 0)) g hg).1)
          clear hgrow
          go_roundw
          case rel =>
            refine ⟨i + 1, out ++ [pn 2 u], by go_num, by omega, by omega, hown', pn_snoc HR'.out.ok (PN.mk' (.inl rfl) hu), ?_, hB6⟩
            rw [szL_append, szL_cons, szL_nil, szN_pn]
            omega
          case measure => simp [intOf]; omega
        | true =>
          go_wp2_with fail
          refine HRT.out.mono ?_
          rintro e w5 ⟨u, rfl, hu, hus, hb5⟩
          have hB5 := below_after HBB.out hb5
          have hwr : w.heap.size ≤ w5.heap.size + 1 := by have := hbel.size; have := hB5.size; omega
          have hl1 : (out ++ [pn 2 u]).length ≤ 1000000 := by rw [List.length_append, List.length_singleton]; omega
          go_wp2_with (first
            | (at_builtin; refine wpList_append_node rfl _ _ rfl w.heap.size w.heap.size out _ rfl (HOWN.out w5 hB5 _) ⟨pn 2 u, .slice none 0 0, .slice none 0 0⟩ ⟨w5.heap.size, 0, none⟩ 1 rfl (new_five _ _ ⟨pn 2 u, .slice none 0 0, .slice none 0 0⟩) (AttrsAt.nil _ _) (Tree.nil _ _) (by omega) (by simpa using hwr) ?_; intro v' w6 hown' hgrow; have hB6 : Below w.heap.size w w6 := ((hbel.trans (hB5.mono hbel.size)).alloc (by have := hbel.size; have := hB5.size; omega) _).grown hgrow (by simpa using hwr) (fun g hg => (OwnT.lt (HOWN.out w5 hB5 (.cells #[] 0)) g hg).1); have hwr2 : w.heap.size ≤ w6.heap.size + 1 := by have := hB6.size; omega)
            | (at_builtin; refine wpList_append_node rfl _ _ rfl w.heap.size w.heap.size (out ++ [pn 2 u]) _ rfl (OwnC.later hown' (below_new w6 _)) ⟨pn 3 ⟨#[99]⟩, .slice none 0 0, .slice none 0 0⟩ ⟨w6.heap.size, 0, none⟩ 1 rfl (new_five _ _ ⟨pn 3 ⟨#[99]⟩, .slice none 0 0, .slice none 0 0⟩) (AttrsAt.nil _ _) (Tree.nil _ _) hl1 (by simpa using hwr2) ?_; intro v8 w8 hown8 hgrow8))
          clear hgrow
          have hB8 : Below w.heap.size w w8 := (hB6.alloc (by have := hB6.size; omega) _).grown hgrow8 (by simpa using hwr2) (fun g hg => (OwnT.lt hown' g hg).1)
          clear hgrow8
          go_roundw
          case rel =>
            refine ⟨i + 1, out ++ [pn 2 u] ++ [pn 3 ⟨#[99]⟩], by go_num, by omega, by omega, hown8, pn_snoc (pn_snoc HR'.out.ok (PN.mk' (.inl rfl) hu)) (PN.mk' (.inr rfl) okT_c), ?_, hB8⟩
            rw [szL_append, szL_append, szL_cons, szL_cons, szL_nil, szN_pn, szN_pn]
            have : (⟨#[99]⟩ : ByteArray).size = 1 := rfl
            omega
          case measure => simp [intOf]; omega
    · have HR' := Lib.hid HR
      have hb6 : ¬ (i < ls.length ∧ i < 6) := hlt
      have hT : Tree (· < wr.heap.size) wr out (.slice A' out.length c'') := (HR.own.tree (Nat.le_refl _)).mono fun b hb => hb.2
      have HMG := Lib.hid (merge_dom out _ wr hT HR.ok (by omega))
      clear hT HR
      rcases Nat.lt_or_ge i ls.length with hl1 | hl1
      case' inl =>
        have hi66 : i = 6 := by omega
        subst hi66
      all_goals
        clear hlt hb6
        go_wp2_with fail
        refine HMG.out.mono ?_
        rintro e w5 ⟨M, v', rfl, hown, hok, hsz, hb5⟩
        have hms : szL M ≤ 100000 := by omega
        have HMA := Lib.hid (may_any M v' w5 ((hown.tree (Nat.le_refl _)).mono fun b hb => hb.2) hms (allP_ok hok hms))
        have HB5 := Lib.hid (below_after hbel hb5)
        clear hown hb5 hok
        go_wp2_with fail
        refine HMA.out.mono ?_
        rintro e w6 ⟨rfl, hb6⟩
        have HB6 := Lib.hid (below_after HB5.out hb6)
        clear hb6
        go_wp2_with fail
        refine (lives_any _).mono ?_
        rintro e w7 ⟨rfl, hb7⟩
        have HB7 := Lib.hid (below_after HB6.out hb7)
        clear hb7
        go_wp2_with fail
        go_ret
        exact ⟨rfl, HB7.out⟩

end Go.Proofs.Ythiibcjahmokpaa
