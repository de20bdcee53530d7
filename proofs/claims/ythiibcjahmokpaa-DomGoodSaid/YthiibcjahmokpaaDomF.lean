/- dom.shaped, fault, at a plain node: their walks. -/
import Derived.Test.YthiibcjahmokpaaDomA
import Derived.Test.YthiibcjahmokpaaDomM
import Derived.Test.YthiibcjahmokpaaIs
import Derived.Test.YthiibcjahmokpaaMemC
namespace Go.Proofs.Ythiibcjahmokpaa
open Go.RowKit
set_option linter.unusedVariables false

set_option maxHeartbeats 1000000 in
theorem shaped_plain (k : Int) (hk : k = 2 ∨ k = 3) (t : ByteArray) (A1 A2 : Option Addr) (c1 c2 : Nat) (w : World) :
    Calls Try.prog 21 #[.agg #[.int .i64 k, .string ⟨#[]⟩, .slice A1 0 c1, .string t, .slice A2 0 c2]] w fun e w' => e = .returned (.bool true) ∧ Below w.heap.size w w' := by
  rcases hk with rfl | rfl
  all_goals
    go_enter Try.func21, Try.ntmps21
    go_wp2_with fail
    go_ret
    exact ⟨rfl, (Below.refl _ w).alloc (Nat.le_refl _) _⟩

set_option maxHeartbeats 1000000 in
theorem shaped_el (nm : ByteArray) (A1 A2 : Option Addr) (n1 n2 c1 c2 : Nat) (w : World) :
    Calls Try.prog 21 #[.agg #[.int .i64 1, .string nm, .slice A1 n1 c1, .string ⟨#[]⟩, .slice A2 n2 c2]] w fun e w' => e = .returned (.bool true) ∧ Below w.heap.size w w' := by
  go_enter Try.func21, Try.ntmps21
  go_wp2_with fail
  go_ret
  exact ⟨rfl, (Below.refl _ w).alloc (Nat.le_refl _) _⟩

set_option maxHeartbeats 2000000 in
set_option maxRecDepth 100000 in
theorem fault_plain (k : Int) (hk : k = 2 ∨ k = 3) (t : ByteArray) (A1 A2 : Option Addr) (c1 c2 : Nat) (b : Bool) (w : World) (ht : okT t.data.toList) (hb : k = 2 → t.data.toList ≠ [] ∧ b = false) (hs : t.size ≤ 100000) :
    Calls Try.prog 11 #[.agg #[.int .i64 k, .string ⟨#[]⟩, .slice A1 0 c1, .string t, .slice A2 0 c2], .bool b] w fun e w' => e = .returned (.int .i64 0) ∧ Below w.heap.size w w' := by
  have HIS := Lib.hid (okT_is ht)
  have hcells : ∀ (j : Nat) (u : Value), #[Value.int .i64 k, .string ⟨#[]⟩, .slice A1 0 c1, .string t, .slice A2 0 c2][j]? = some u →
      ∀ w1, Below (w.alloc (.cells #[.int .i64 k, .string ⟨#[]⟩, .slice A1 0 c1, .string t, .slice A2 0 c2] 28)).heap.size (w.alloc (.cells #[.int .i64 k, .string ⟨#[]⟩, .slice A1 0 c1, .string t, .slice A2 0 c2] 28)) w1 → w1.cell? ⟨w.heap.size, j, none⟩ = some u := by
    intro j u hj w1 h1
    rw [h1.cell (p := ⟨w.heap.size, j, none⟩) (by simp)]
    rw [World.cell?_alloc_mark]
    exact hj
  have HC := Lib.hid hcells
  clear hcells
  rcases hk with rfl | rfl
  · obtain ⟨hne, rfl⟩ := hb rfl
    have hbe : t.toList.isEmpty = false := by
      rw [Lib.toList_data]
      cases h : t.data.toList with
      | nil => exact absurd h hne
      | cons a l => rfl
    clear hb hne ht
    go_enter Try.func11, Try.ntmps11
    go_wp2_with fail
    refine (shaped_plain 2 (.inl rfl) t A1 A2 c1 c2 _).mono ?_
    rintro e w1 ⟨rfl, hb1⟩
    have c0 := HC.out 0 _ rfl w1 hb1
    have c3 := HC.out 3 _ rfl w1 hb1
    have HB1 := Lib.hid (below_after (below_new w _) hb1)
    clear hb1
    go_wp2_with fail
    refine (is_any t _ (by omega)).mono ?_
    rw [HIS.out]
    rintro e w2 ⟨rfl, hb2⟩
    have HB2 := Lib.hid (below_after HB1.out hb2)
    go_wp2_with fail
    go_ret
    exact ⟨rfl, HB2.out⟩
  · clear hb ht
    go_enter Try.func11, Try.ntmps11
    go_wp2_with fail
    refine (shaped_plain 3 (.inr rfl) t A1 A2 c1 c2 _).mono ?_
    rintro e w1 ⟨rfl, hb1⟩
    have c0 := HC.out 0 _ rfl w1 hb1
    have c3 := HC.out 3 _ rfl w1 hb1
    have HB1 := Lib.hid (below_after (below_new w _) hb1)
    clear hb1
    go_wp2_with fail
    refine (is_any t _ (by omega)).mono ?_
    rw [HIS.out]
    rintro e w2 ⟨rfl, hb2⟩
    have HB2 := Lib.hid (below_after HB1.out hb2)
    go_wp2_with fail
    go_ret
    exact ⟨rfl, HB2.out⟩

end Go.Proofs.Ythiibcjahmokpaa
