/- strainerlaw03.lives: its walk. -/
import Derived.Test.YthiibcjahmokpaaDomY
namespace Go.Proofs.Ythiibcjahmokpaa
open Go.RowKit
set_option linter.unusedVariables false

theorem at_one {α : Type} {x y : α} {i : Nat} (h : [x][i]? = some y) : i = 0 ∧ y = x := by
  match i, h with
  | 0, h => simp at h; exact ⟨rfl, h.symm⟩

theorem sz_elx : szL [elx] ≤ 100000 := by
  simp [szL, elx, szN, szA, pn, idS, ByteArray.size]
theorem wt_elx : wtL (allN [elx]) = 3 := by
  simp [allN, allNd, elx, pn, wtL, wtN, Nd.attrs]

theorem allP_elx : AllP PM [elx] := by
  have hk : AllP PM [pn 2 ⟨#[120]⟩] := .mk _ (fun i n h => by
      obtain ⟨rfl, rfl⟩ := at_one h
      refine ⟨by simp [szL, szN, szA, pn, ByteArray.size], fun m hm => ?_⟩
      obtain ⟨_, rfl⟩ := at_one hm
      exact .inl ⟨PN.mk' (.inl rfl) okT_x, by decide, fun _ => ⟨by decide, rfl⟩⟩) (fun i n h => by
      obtain ⟨rfl, rfl⟩ := at_one h
      exact .mk [] (by simp) (by simp))
  refine .mk _ (fun i n h => ?_) (fun i n h => ?_)
  · obtain ⟨rfl, rfl⟩ := at_one h
    refine ⟨sz_elx, fun m hm => ?_⟩
    obtain ⟨_, rfl⟩ := at_one hm
    exact .inr rfl
  · obtain ⟨rfl, rfl⟩ := at_one h
    exact hk

/-- The example in memory. -/
def W3 (w : World) : World :=
  ((w.alloc (.cells #[.string ⟨#[105, 100]⟩, .string ⟨#[49]⟩] 45)).alloc (.cells #[.int .i64 2, .string ⟨#[]⟩, .slice none 0 0, .string ⟨#[120]⟩, .slice none 0 0] 28)).alloc
    (.cells #[.int .i64 1, .string ⟨#[97]⟩, .slice (some ⟨w.heap.size, 0, none⟩) 1 1, .string ⟨#[]⟩, .slice (some ⟨w.heap.size + 1, 0, none⟩) 1 1] 28)

theorem cells_lit {w : World} {b : Nat} {cs : Array Value} (h : ∀ j, j < cs.size → w.cell? ⟨b, j, none⟩ = cs[j]?) (hb : b < w.heap.size) (xs : List Value) (hx : cs.toList = xs) : Cells (· < w.heap.size) w (some ⟨b, 0, none⟩) xs := by
  intro _
  refine ⟨b, 0, rfl, hb, fun j u hu => ?_⟩
  rw [Nat.zero_add, h j (by rw [← hx] at hu; simpa using (List.getElem?_eq_some_iff.1 hu).1), ← hu, ← hx]
  simp

theorem tree_elx (w : World) : Tree (· < (W3 w).heap.size) (W3 w) [elx] (.slice (some ⟨w.heap.size + 2, 0, none⟩) 1 1) := by
  have hs : (W3 w).heap.size = w.heap.size + 3 := by simp [W3]
  have ca : AttrsAt (· < (W3 w).heap.size) (W3 w) [(idS, ⟨#[49]⟩)] (.slice (some ⟨w.heap.size, 0, none⟩) 1 1) :=
    ⟨_, 1, rfl, Nat.le_refl _, cells_lit (cs := #[.string ⟨#[105, 100]⟩, .string ⟨#[49]⟩]) (fun j hj => by
      unfold W3
      rw [World.cell?_alloc_past _ _ _ (by simp; omega), World.cell?_alloc_past _ _ _ (by simp), World.cell?_alloc_mark]) (by omega) _ rfl⟩
  have ck : Tree (· < (W3 w).heap.size) (W3 w) [pn 2 ⟨#[120]⟩] (.slice (some ⟨w.heap.size + 1, 0, none⟩) 1 1) :=
    .mk [⟨pn 2 ⟨#[120]⟩, .slice none 0 0, .slice none 0 0⟩] _ _ 1 rfl (Nat.le_refl _) (cells_lit (cs := #[.int .i64 2, .string ⟨#[]⟩, .slice none 0 0, .string ⟨#[120]⟩, .slice none 0 0]) (fun j hj => by
      unfold W3
      rw [World.cell?_alloc_past _ _ _ (by simp)]
      have := World.cell?_alloc_mark (w.alloc (.cells #[.string ⟨#[105, 100]⟩, .string ⟨#[49]⟩] 45)) #[.int .i64 2, .string ⟨#[]⟩, .slice none 0 0, .string ⟨#[120]⟩, .slice none 0 0] 28 (0, 0) j
      rwa [World.size_alloc] at this) (by omega) _ rfl)
      (fun r hr => by simp at hr; subst hr; exact AttrsAt.nil _ _) (fun r hr => by simp at hr; subst hr; exact Tree.nil _ _)
  exact .mk [⟨elx, .slice (some ⟨w.heap.size, 0, none⟩) 1 1, .slice (some ⟨w.heap.size + 1, 0, none⟩) 1 1⟩] _ _ 1 rfl (Nat.le_refl _) (cells_lit (cs := #[.int .i64 1, .string ⟨#[97]⟩, .slice (some ⟨w.heap.size, 0, none⟩) 1 1, .string ⟨#[]⟩, .slice (some ⟨w.heap.size + 1, 0, none⟩) 1 1]) (fun j hj => by
      unfold W3
      have := World.cell?_alloc_mark ((w.alloc (.cells #[.string ⟨#[105, 100]⟩, .string ⟨#[49]⟩] 45)).alloc (.cells #[.int .i64 2, .string ⟨#[]⟩, .slice none 0 0, .string ⟨#[120]⟩, .slice none 0 0] 28)) #[.int .i64 1, .string ⟨#[97]⟩, .slice (some ⟨w.heap.size, 0, none⟩) 1 1, .string ⟨#[]⟩, .slice (some ⟨w.heap.size + 1, 0, none⟩) 1 1] 28 (0, 0) j
      rwa [World.size_alloc, World.size_alloc] at this) (by omega) _ rfl)
      (fun r hr => by simp at hr; subst hr; exact ca) (fun r hr => by simp at hr; subst hr; exact ck)

set_option maxHeartbeats 1000000 in
set_option maxRecDepth 100000 in
theorem lives_any (w : World) : Calls Try.prog 7 #[] w fun e w' => e = .returned (.bool true) ∧ Below w.heap.size w w' := by
  have hT := tree_elx w
  have hB : Below w.heap.size w (W3 w) := (((Below.refl _ w).alloc (Nat.le_refl _) _).alloc (by simp) _).alloc (by simp; omega) _
  have HW := Lib.hid (weight_any [elx] _ (W3 w) hT sz_elx)
  have HM := Lib.hid (fun w1 (h : Below (W3 w).heap.size (W3 w) w1) => may_any [elx] _ w1 ((hT.stay h).mono fun b hb => Nat.lt_of_lt_of_le hb h.size) sz_elx allP_elx)
  clear hT
  go_enter Try.func7, Try.ntmps7
  go_wp2_with fail
  change Calls _ _ _ (W3 w) _
  refine HW.out.mono ?_
  rw [wt_elx]
  rintro e w1 ⟨rfl, hb1⟩
  go_wp2_with fail
  refine (HM.out w1 hb1).mono ?_
  rintro e w2 ⟨rfl, hb2⟩
  have HB2 := Lib.hid (below_after hB (below_after hb1 hb2))
  clear hb1 hb2
  go_wp2_with fail
  refine (void_br _).mono ?_
  rintro e w3 ⟨rfl, rfl⟩
  go_wp2_with fail
  refine (raw_style _).mono ?_
  rintro e w4 ⟨rfl, rfl⟩
  go_wp2_with fail
  go_ret
  exact ⟨rfl, HB2.out⟩

end Go.Proofs.Ythiibcjahmokpaa
