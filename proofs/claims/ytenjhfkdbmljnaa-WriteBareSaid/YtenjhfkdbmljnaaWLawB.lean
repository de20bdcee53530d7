/- strainerlaw04.lives, WriteGrows: their walks. -/
import Derived.Test.YtenjhfkdbmljnaaWrt
import Derived.Test.YtenjhfkdbmljnaaTreeL
import Derived.Test.YtenjhfkdbmljnaaRightR
import Derived.Test.YtenjhfkdbmljnaaEscR
namespace Go.Proofs.Ytenjhfkdbmljnaa
open Go.RowKit
set_option linter.unusedVariables false

/-! ### sizes, texts -/
theorem sz_elt (an av nm kt : ByteArray) : szL [elt an av nm kt] = 30 + an.size + av.size + nm.size + kt.size := by
  rw [szL_cons, szL_nil, szN_eq]
  show 10 + nm.size + 0 + szA [(an, av)] + szL [.mk 2 ⟨#[]⟩ [] kt []] + 0 = _
  rw [szL_cons, szL_nil, szN_eq]
  show 10 + nm.size + 0 + szA [(an, av)] + (10 + 0 + kt.size + szA [] + szL [] + 0) + 0 = _
  simp only [szA, szL]
  omega
theorem txt_elt {an av nm kt : ByteArray} (hv : voidB nm.data.toList = false) (hr : rawB nm.data.toList = false) :
    txtL false [elt an av nm kt] = openT (elt an av nm kt) ++ (escB false kt.data.toList ++ closeT (elt an av nm kt)) := by
  rw [txtL_cons, txtL_nil, List.append_nil, txtN_eq]
  show (if (1 : Int) = 3 then _ else if (1 : Int) = 2 then _ else if (1 : Int) = 1 then (if voidB nm.data.toList = true then _ else openT (elt an av nm kt) ++ (txtL (rawB nm.data.toList) [.mk 2 ⟨#[]⟩ [] kt []] ++ closeT (elt an av nm kt))) else []) = _
  rw [if_neg (by decide), if_neg (by decide), if_pos rfl, hv, if_neg (by decide), hr, txtL_cons, txtL_nil, List.append_nil, txtN_eq]
  rfl

def lwE : Nd := elt ⟨#[104, 114, 101, 102]⟩ ⟨#[120, 38, 121]⟩ ⟨#[97]⟩ ⟨#[49, 32, 60, 32, 50]⟩
theorem lw_txt : txtL false [lwE] = [60, 97, 32, 104, 114, 101, 102, 61, 34, 120, 38, 97, 109, 112, 59, 121, 34, 62, 49, 32, 38, 108, 116, 59, 32, 50, 60, 47, 97, 62] := by
  unfold lwE
  rw [txt_elt (by decide +kernel) (by decide +kernel)]
  decide +kernel
theorem lw_plain : plainL [lwE] = [49, 32, 60, 32, 50] := by
  rw [plainL_cons, plainL_nil, plainN_eq]
  unfold lwE elt
  show (if (1 : Int) = 2 then _ else []) ++ plainL [.mk 2 ⟨#[]⟩ [] ⟨#[49, 32, 60, 32, 50]⟩ []] ++ [] = _
  rw [if_neg (by decide), plainL_cons, plainL_nil, plainN_eq]
  show [] ++ ((if (2 : Int) = 2 then _ else []) ++ plainL [] ++ []) ++ [] = _
  rw [if_pos rfl, plainL_nil]
  rfl
theorem lw_sz : szL [lwE] ≤ 140000 := by
  unfold lwE
  rw [sz_elt]
  decide

theorem lit_of {s : ByteArray} {l : List UInt8} (h : s.data.toList = l) : s = ⟨l.toArray⟩ := by
  apply ByteArray.ext
  apply Array.toList_inj.1
  simpa using h

set_option maxHeartbeats 1000000 in
set_option maxRecDepth 100000 in
theorem lives4_any (w : World) : Calls Try.prog 14 #[] w fun e w' => e = .returned (.bool true) ∧ Below w.heap.size w w' := by
  have hT := tree_elt w ⟨#[104, 114, 101, 102]⟩ ⟨#[120, 38, 121]⟩ ⟨#[97]⟩ ⟨#[49, 32, 60, 32, 50]⟩
  have hB := below_WL w ⟨#[104, 114, 101, 102]⟩ ⟨#[120, 38, 121]⟩ ⟨#[97]⟩ ⟨#[49, 32, 60, 32, 50]⟩
  obtain ⟨W, hW⟩ : ∃ W, WL w ⟨#[104, 114, 101, 102]⟩ ⟨#[120, 38, 121]⟩ ⟨#[97]⟩ ⟨#[49, 32, 60, 32, 50]⟩ = W := ⟨_, rfl⟩
  have HW := Lib.hid (text_any (· < W.heap.size) [lwE] _ W (by rw [hW] at hT; exact hT) (fun b h => h) lw_sz)
  have HM := Lib.hid (fun w1 (h : Below W.heap.size W w1) => plain_any (· < W.heap.size) [lwE] _ w1 (by rw [hW] at hT; exact hT.stay h) (fun b hb => Nat.lt_of_lt_of_le hb h.size) lw_sz)
  rw [hW] at hB
  clear hT
  go_enter Try.func14, Try.ntmps14
  go_wp2_with fail
  change Calls _ _ _ (WL w ⟨#[104, 114, 101, 102]⟩ ⟨#[120, 38, 121]⟩ ⟨#[97]⟩ ⟨#[49, 32, 60, 32, 50]⟩) _
  rw [hW]
  refine HW.out.mono ?_
  rintro e w1 ⟨s, rfl, hs, hb1⟩
  rw [lw_txt] at hs
  rw [lit_of hs]
  clear hs
  go_wp2_with fail
  refine (HM.out w1 hb1).mono ?_
  rintro e w2 ⟨s2, rfl, hs2, hb2⟩
  rw [lw_plain] at hs2
  rw [lit_of hs2]
  have HB2 := Lib.hid (below_after hB (below_after hb1 hb2))
  clear hb1 hb2 hs2
  go_wp2_with fail
  go_ret
  exact ⟨rfl, HB2.out⟩

theorem rightZ_any (A : Option Addr) (n c : Nat) (l : List UInt8) (w : World) (hs : Sits w w.heap.size A (Lib.byteCells l)) (hn : n = l.length) (hc : n ≤ c) (hm : n ≤ 1000) :
    Calls Try.prog 16 #[.slice A n c] w fun e w' => ∃ u : ByteArray, e = .returned (.string u) ∧ u.size ≤ 4 * n ∧ Below w.heap.size w w' := by
  subst hn
  refine (rightR_any A c l w hs hc (by omega)).mono ?_
  rintro e w' ⟨rfl, hb⟩
  exact ⟨_, rfl, right_len _, hb⟩

theorem txt_bare {nm : ByteArray} (hv : voidB nm.data.toList = false) : txtL false [bareE nm] = openT (bareE nm) ++ closeT (bareE nm) := by
  rw [txtL_cons, txtL_nil, List.append_nil, txtN_eq]
  show (if (1 : Int) = 3 then _ else if (1 : Int) = 2 then _ else if (1 : Int) = 1 then (if voidB nm.data.toList = true then _ else openT (bareE nm) ++ (txtL (rawB nm.data.toList) [] ++ closeT (bareE nm))) else []) = _
  rw [if_neg (by decide), if_neg (by decide), if_pos rfl, hv, if_neg (by decide), txtL_nil, List.nil_append]

def bS : ByteArray := ⟨#[98]⟩
def idA : ByteArray := ⟨#[105, 100]⟩
theorem grow_len (v tx : ByteArray) : (txtL false [elt idA v bS tx]).length = (txtL false [bareE bS]).length + 6 + (escB true v.data.toList).length + (escB false tx.data.toList).length := by
  rw [txt_elt (by decide +kernel) (by decide +kernel), txt_bare (by decide +kernel)]
  have h1 : (openT (elt idA v bS tx)).length = 9 + (escB true v.data.toList).length := by
    show (60 :: (bS.data.toList ++ ([(idA, v)].flatMap attT ++ [62]))).length = _
    rw [List.flatMap_cons, List.flatMap_nil, List.append_nil]
    show (60 :: (bS.data.toList ++ (32 :: (idA.data.toList ++ (61 :: 34 :: (escB true v.data.toList ++ [34]))) ++ [62]))).length = _
    simp only [List.length_cons, List.length_append, List.length_nil]
    have e1 : bS.data.toList.length = 1 := rfl
    have e2 : idA.data.toList.length = 2 := rfl
    omega
  have h2 : (openT (bareE bS)).length = 3 := by decide +kernel
  have h3 : (closeT (elt idA v bS tx)).length = 4 := closeT_len _
  have h4 : (closeT (bareE bS)).length = 4 := by decide +kernel
  simp only [List.length_append]
  omega

end Go.Proofs.Ytenjhfkdbmljnaa
