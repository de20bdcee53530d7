/- strainerref03.Merge: its walk. -/
import Derived.Test.YtenjhfkdbmljnaaTreeA
import Derived.StillTailTactics
namespace Go.Proofs.Ytenjhfkdbmljnaa
open Go.RowKit
set_option linter.unusedVariables false

theorem szL_take (l : List Nd) (k : Nat) : szL (l.take k) ≤ szL l := by
  have : szL l = szL (l.take k) + szL (l.drop k) := by rw [← szL_append, List.take_append_drop]
  omega
theorem merge_snoc (l : List Nd) (n : Nd) : mergeB (l ++ [n]) = mstep (mergeB l) n := by simp [mergeB]

theorem isEmpty_iff' (s : ByteArray) : (s.toList.isEmpty = true) ↔ s.data.toList = [] := by rw [Lib.toList_data]; simp

structure MergeAt (lo : Nat) (w wr : World) (l : List Nd) (k : Nat) (v : Value) (out : List Nd) : Prop where
  le : k ≤ l.length
  is : mergeB (l.take k) = out
  own : OwnC wr w.heap.size lo out v
  bel : Below w.heap.size w wr

def MergeRel (lo : Nat) (w : World) (l : List Nd) (x y : Value) (wr : World) : Prop := ∃ (k : Nat) (out : List Nd), y = .int .i64 k ∧ MergeAt lo w wr l k x out

set_option maxHeartbeats 2000000 in
set_option maxRecDepth 100000 in
theorem mergeR_any (lo : Nat) (l : List Nd) (v : Value) (w : World) (hT : Tree (fun b => lo ≤ b ∧ b < w.heap.size) w l v) (hsz : szL l ≤ 1000000) :
    Calls Try.prog 35 #[v] w fun e w' => ∃ v', e = .returned v' ∧ OwnC w' w.heap.size lo (mergeB l) v' ∧ Below w.heap.size w w' := by
  have hlen := szL_len l
  obtain ⟨A, c, rfl, hc⟩ := hT.shape
  have HT := Lib.hid hT
  clear hT
  go_enter Try.func35, Try.ntmps35
  go_wp2_with fail
  go_loopw [3, 4] (fun x y wr => MergeRel lo w l x y wr) (fun _ y _ => l.length - (intOf y).toNat)
  case atStart => exact ⟨0, [], rfl, by omega, rfl, OwnC.nil _ _ _, Below.refl _ _⟩
  case round =>
    obtain ⟨k, out, rfl, HR⟩ := hrel
    have hk := HR.le
    have HO := Lib.hid HR.is
    have hown := HR.own
    have hbel := HR.bel
    clear HR
    have hos : szL out ≤ 1000000 := by
      have h1 := merge_sz (l.take k)
      have h2 := szL_take l k
      rw [HO.out] at h1
      omega
    have hol := szL_len out
    by_cases hlt : k < l.length
    · obtain ⟨b, o, c', hv, _, hS, hcell⟩ := HT.out.open_ (by omega)
      injection hv with hA _ hcc
      subst hA
      subst hcc
      obtain ⟨n, hn⟩ : ∃ n, l[k]? = some n := ⟨_, List.getElem?_eq_getElem hlt⟩
      obtain ⟨va, vk, hat⟩ := hcell k n hn
      obtain ⟨A', c'', rfl, hc''⟩ := OwnT.shape hown
      have q0 : wr.cell? ⟨b, o + k * 5, none⟩ = some (.int .i64 n.kind) := (hbel.cell (p := ⟨b, o + k * 5, none⟩) hS.2).trans hat.c0
      have q3 : wr.cell? ⟨b, o + k * 5 + 3, none⟩ = some (.string n.text) := (hbel.cell (p := ⟨b, o + k * 5 + 3, none⟩) hS.2).trans hat.c3
      have q1 : wr.cell? ⟨b, o + k * 5 + 1, none⟩ = some (.string n.name) := (hbel.cell (p := ⟨b, o + k * 5 + 1, none⟩) hS.2).trans hat.c1
      have q2 : wr.cell? ⟨b, o + k * 5 + 2, none⟩ = some va := (hbel.cell (p := ⟨b, o + k * 5 + 2, none⟩) hS.2).trans hat.c2
      have q4 : wr.cell? ⟨b, o + k * 5 + 4, none⟩ = some vk := (hbel.cell (p := ⟨b, o + k * 5 + 4, none⟩) hS.2).trans hat.c4
      have HSN := Lib.hid (show mergeB (l.take (k + 1)) = mstep out n by rw [List.take_add_one, hn, ← HO.out]; exact merge_snoc _ _)
      have hkeep := fun ob => input_kept hbel hown ob
      have HKP := Lib.hid hkeep
      have HAT := Lib.hid hat
      have HN := Lib.hid hn
      have hown2 := fun ob => OwnC.later hown (below_new wr ob)
      have HOWN := Lib.hid hown2
      have hwr : w.heap.size ≤ wr.heap.size + 1 := by have := hbel.size; omega
      have hns := szL_at hn
      rw [szN_eq] at hns
      clear hcell hn hat hkeep hown2
      by_cases h2 : n.kind = 2
      · have B2 : (n.kind == 2) = true := by simp [h2]
        obtain ⟨q, hq⟩ : ∃ q, n.text.toList.isEmpty = q := ⟨_, rfl⟩
        cases q with
        | true =>
          have HF := Lib.hid (show mergeB (l.take (k + 1)) = out by rw [HSN.out]; unfold mstep; rw [if_pos ⟨h2, (isEmpty_iff' _).1 hq⟩])
          clear h2
          have HOW := Lib.hid hown
          clear hown
          go_wp2_with fail
          go_roundw
          case rel => exact ⟨k + 1, out, by go_num, by omega, HF.out, HOW.out, hbel⟩
          case measure => simp [intOf]; omega
        | false =>
          have hne : ¬ n.text.data.toList = [] := fun e => by rw [(isEmpty_iff' _).2 e] at hq; cases hq
          rcases Nat.eq_zero_or_pos out.length with h0 | h0
          · have he : out = [] := List.eq_nil_of_length_eq_zero h0
            subst he
            have HF := Lib.hid (show mergeB (l.take (k + 1)) = [] ++ [n] by rw [HSN.out]; unfold mstep; rw [if_neg (fun h => hne h.2), if_neg (fun h => by simp [lastText] at h)])
            have HOW := Lib.hid hown
            clear h2 hne hown h0
            go_wp2_with (at_builtin; refine wpList_append_node rfl _ _ rfl w.heap.size lo [] _ rfl (HOWN.out _) ⟨n, va, vk⟩ ⟨wr.heap.size, 0, none⟩ 1 rfl (new_five _ _ _) ((HAT.out.at_.keep (HKP.out _).1).mono (HKP.out _).2) ((HAT.out.kids.keep (HKP.out _).1).mono (HKP.out _).2) (by omega) (by simpa using hwr) ?_; intro v' w2 hown' hgrow)
            have hB2 : Below w.heap.size w w2 := (hbel.alloc hbel.size _).grown hgrow (by simpa using hwr) (fun g hg => (OwnT.lt HOW.out g hg).1)
            clear hgrow
            go_roundw
            case rel => exact ⟨k + 1, [] ++ [n], by go_num, by omega, HF.out, hown', hB2⟩
            case measure => simp [intOf]; omega
          · obtain ⟨m, x, hmx⟩ := snoc_of h0
            subst hmx
            obtain ⟨g, rfl, hlenx, hbg, g0, g3, gf⟩ := hown.last
            have hlm : (m ++ [x]).length = m.length + 1 := by simp
            rw [hlm] at hol
            by_cases hx2 : x.kind = 2
            · have C2 : (x.kind == 2) = true := by simp [hx2]
              have HF := Lib.hid (show mergeB (l.take (k + 1)) = m ++ [.mk x.kind x.name x.attrs (x.text ++ n.text) x.kids] by rw [HSN.out]; unfold mstep; rw [if_neg (fun h => hne h.2), if_pos ⟨h2, by rw [lastText_snoc]; exact C2⟩, mglue_snoc])
              have htx := OwnC.text hown (x.text ++ n.text)
              rw [hlm] at htx
              have HTX := Lib.hid htx
              have hxs : x.text.size ≤ 1000000 := by
                have h1 := szL_at (l := m ++ [x]) (j := m.length) (n := x) (by simp)
                rw [szN_eq] at h1
                omega
              have hns2 : n.text.size ≤ 1000000 := by omega
              have i1 : (m.length : Int) < ((m.length + 1 : Nat) : Int) := by omega
              have i2 : (0 : Int) ≤ (m.length : Int) := by omega
              have HOL := Lib.hid hlenx
              clear h2 hx2 hne hown h0 hlm htx hlenx
              rw [show (m ++ [x]).length = m.length + 1 by simp]
              go_wp2_with fail
              have i3 : (m.length : Int) < (m.length : Int) + 1 := by omega
              have i4 : (k : Int) < (l.length : Int) := by omega
              have i5 : ¬ (9223372036854775807 < x.text.size + n.text.size) := by omega
              go_still_tail 15, (by kernel_rfl)
              change wpList _ _ _ _ _ wr.drew
              clear i5
              go_wp2_with fail
              have hB2 : Below w.heap.size w (wr.setCell ⟨g, m.length * 5 + 3, none⟩ (.string (x.text ++ n.text))).drew := (hbel.setCell hbg _).drew
              go_roundw
              case rel => exact ⟨k + 1, _, by go_num, by omega, HF.out, HTX.out.1.drew, hB2⟩
              case measure => simp [intOf]; omega
            · have C2 : (x.kind == 2) = false := by simp [hx2]
              have HF := Lib.hid (show mergeB (l.take (k + 1)) = (m ++ [x]) ++ [n] by rw [HSN.out]; unfold mstep; rw [if_neg (fun h => hne h.2), if_neg (fun h => by have := h.2; rw [lastText_snoc, C2] at this; cases this)])
              have i1 : (m.length : Int) < ((m.length + 1 : Nat) : Int) := by omega
              have HOW := Lib.hid hown
              clear h2 hx2 hne hown h0 hlenx hlm
              rw [show (m ++ [x]).length = m.length + 1 by simp] at HOWN HOW ⊢
              go_wp2_with (at_builtin; refine wpList_append_node rfl _ _ rfl w.heap.size lo (m ++ [x]) _ rfl (HOWN.out _) ⟨n, va, vk⟩ ⟨wr.heap.size, 0, none⟩ 1 rfl (new_five _ _ _) ((HAT.out.at_.keep (HKP.out _).1).mono (HKP.out _).2) ((HAT.out.kids.keep (HKP.out _).1).mono (HKP.out _).2) (by rw [List.length_append]; simp; omega) (by simpa using hwr) ?_; intro v' w2 hown' hgrow)
              have hB2 : Below w.heap.size w w2 := (hbel.alloc hbel.size _).grown hgrow (by simpa using hwr) (fun g hg => (OwnT.lt HOW.out g hg).1)
              clear hgrow
              go_roundw
              case rel => exact ⟨k + 1, (m ++ [x]) ++ [n], by go_num, by omega, HF.out, hown', hB2⟩
              case measure => simp [intOf]; omega
      · have B2 : (n.kind == 2) = false := by simp [h2]
        have HF := Lib.hid (show mergeB (l.take (k + 1)) = out ++ [n] by rw [HSN.out]; unfold mstep; rw [if_neg (fun h => h2 h.1), if_neg (fun h => h2 h.1)])
        have HOW := Lib.hid hown
        clear h2 hown
        go_wp2_with (at_builtin; refine wpList_append_node rfl _ _ rfl w.heap.size lo out _ rfl (HOWN.out _) ⟨n, va, vk⟩ ⟨wr.heap.size, 0, none⟩ 1 rfl (new_five _ _ _) ((HAT.out.at_.keep (HKP.out _).1).mono (HKP.out _).2) ((HAT.out.kids.keep (HKP.out _).1).mono (HKP.out _).2) (by omega) (by simpa using hwr) ?_; intro v' w2 hown' hgrow)
        have hB2 : Below w.heap.size w w2 := (hbel.alloc hbel.size _).grown hgrow (by simpa using hwr) (fun g hg => (OwnT.lt HOW.out g hg).1)
        clear hgrow
        go_roundw
        case rel => exact ⟨k + 1, out ++ [n], by go_num, by omega, HF.out, hown', hB2⟩
        case measure => simp [intOf]; omega
    · have hm : mergeB l = out := by
        have := HO.out
        rwa [List.take_of_length_le (by omega)] at this
      have HM := Lib.hid hm
      have HOW := Lib.hid hown
      clear hm hown
      go_wp2_with fail
      go_ret
      rw [HM.out]
      exact ⟨_, rfl, HOW.out, hbel⟩

end Go.Proofs.Ytenjhfkdbmljnaa
