/- Lists of one element that a program writes out: where they lie. -/
import Derived.Test.YtenjhfkdbmljnaaTreeA
namespace Go.Proofs.Ytenjhfkdbmljnaa
open Go.RowKit
set_option linter.unusedVariables false

/-- An element with one attribute and one text. -/
def elt (an av nm kt : ByteArray) : Nd := .mk 1 nm [(an, av)] ⟨#[]⟩ [.mk 2 ⟨#[]⟩ [] kt []]
def bareE (nm : ByteArray) : Nd := .mk 1 nm [] ⟨#[]⟩ []
def WL (w : World) (an av nm kt : ByteArray) : World :=
  ((w.alloc (.cells #[.string an, .string av] 35)).alloc (.cells #[.int .i64 2, .string ⟨#[]⟩, .slice none 0 0, .string kt, .slice none 0 0] 29)).alloc
    (.cells #[.int .i64 1, .string nm, .slice (some ⟨w.heap.size, 0, none⟩) 1 1, .string ⟨#[]⟩, .slice (some ⟨w.heap.size + 1, 0, none⟩) 1 1] 29)

theorem lit_cells {w : World} {b : Nat} {cs : Array Value} (h : ∀ j, j < cs.size → w.cell? ⟨b, j, none⟩ = cs[j]?) (hb : b < w.heap.size) (xs : List Value) (hx : cs.toList = xs) : Cells (· < w.heap.size) w (some ⟨b, 0, none⟩) xs := by
  intro _
  refine ⟨b, 0, rfl, hb, fun j u hu => ?_⟩
  rw [Nat.zero_add, h j (by rw [← hx] at hu; simpa using (List.getElem?_eq_some_iff.1 hu).1), ← hu, ← hx]
  simp

theorem tree_elt (w : World) (an av nm kt : ByteArray) : Tree (· < (WL w an av nm kt).heap.size) (WL w an av nm kt) [elt an av nm kt] (.slice (some ⟨w.heap.size + 2, 0, none⟩) 1 1) := by
  have hs : (WL w an av nm kt).heap.size = w.heap.size + 3 := by simp [WL]
  have ca : AttrsAt (· < (WL w an av nm kt).heap.size) (WL w an av nm kt) [(an, av)] (.slice (some ⟨w.heap.size, 0, none⟩) 1 1) :=
    ⟨_, 1, rfl, Nat.le_refl _, lit_cells (cs := #[.string an, .string av]) (fun j hj => by
      unfold WL
      rw [World.cell?_alloc_past _ _ _ (by simp; omega), World.cell?_alloc_past _ _ _ (by simp), World.cell?_alloc_mark]) (by omega) _ rfl⟩
  have ck : Tree (· < (WL w an av nm kt).heap.size) (WL w an av nm kt) [.mk 2 ⟨#[]⟩ [] kt []] (.slice (some ⟨w.heap.size + 1, 0, none⟩) 1 1) :=
    .mk [⟨.mk 2 ⟨#[]⟩ [] kt [], .slice none 0 0, .slice none 0 0⟩] _ _ 1 rfl (Nat.le_refl _) (lit_cells (cs := #[.int .i64 2, .string ⟨#[]⟩, .slice none 0 0, .string kt, .slice none 0 0]) (fun j hj => by
      unfold WL
      rw [World.cell?_alloc_past _ _ _ (by simp)]
      have := World.cell?_alloc_mark (w.alloc (.cells #[.string an, .string av] 35)) #[.int .i64 2, .string ⟨#[]⟩, .slice none 0 0, .string kt, .slice none 0 0] 29 (0, 0) j
      rwa [World.size_alloc] at this) (by omega) _ rfl)
      (fun r hr => by simp at hr; subst hr; exact AttrsAt.nil _ _) (fun r hr => by simp at hr; subst hr; exact Tree.nil _ _)
  exact .mk [⟨elt an av nm kt, .slice (some ⟨w.heap.size, 0, none⟩) 1 1, .slice (some ⟨w.heap.size + 1, 0, none⟩) 1 1⟩] _ _ 1 rfl (Nat.le_refl _) (lit_cells (cs := #[.int .i64 1, .string nm, .slice (some ⟨w.heap.size, 0, none⟩) 1 1, .string ⟨#[]⟩, .slice (some ⟨w.heap.size + 1, 0, none⟩) 1 1]) (fun j hj => by
      unfold WL
      have := World.cell?_alloc_mark ((w.alloc (.cells #[.string an, .string av] 35)).alloc (.cells #[.int .i64 2, .string ⟨#[]⟩, .slice none 0 0, .string kt, .slice none 0 0] 29)) #[.int .i64 1, .string nm, .slice (some ⟨w.heap.size, 0, none⟩) 1 1, .string ⟨#[]⟩, .slice (some ⟨w.heap.size + 1, 0, none⟩) 1 1] 29 (0, 0) j
      rwa [World.size_alloc, World.size_alloc] at this) (by omega) _ rfl)
      (fun r hr => by simp at hr; subst hr; exact ca) (fun r hr => by simp at hr; subst hr; exact ck)

theorem tree_bare (w : World) (nm : ByteArray) : Tree (· < w.heap.size + 1) (w.alloc (.cells #[.int .i64 1, .string nm, .slice none 0 0, .string ⟨#[]⟩, .slice none 0 0] 29)) [bareE nm] (.slice (some ⟨w.heap.size, 0, none⟩) 1 1) := by
  have h := lit_cells (w := w.alloc (.cells #[.int .i64 1, .string nm, .slice none 0 0, .string ⟨#[]⟩, .slice none 0 0] 29)) (b := w.heap.size) (cs := #[.int .i64 1, .string nm, .slice none 0 0, .string ⟨#[]⟩, .slice none 0 0]) (fun j _ => World.cell?_alloc_mark _ _ _ _ _) (by simp) _ rfl
  rw [World.size_alloc] at h
  exact .mk [⟨bareE nm, .slice none 0 0, .slice none 0 0⟩] _ _ 1 rfl (Nat.le_refl _) h (fun r hr => by simp at hr; subst hr; exact AttrsAt.nil _ _) (fun r hr => by simp at hr; subst hr; exact Tree.nil _ _)

theorem below_WL (w : World) (an av nm kt : ByteArray) : Below w.heap.size w (WL w an av nm kt) := (((Below.refl _ w).alloc (Nat.le_refl _) _).alloc (by simp) _).alloc (by simp; omega) _

end Go.Proofs.Ytenjhfkdbmljnaa
