/- The two functions that write hands over: one that writes, one that counts. -/
import Derived.Test.YtenjhfkdbmljnaaOut
import Derived.Test.YtenjhfkdbmljnaaBuild
import Derived.Test.YtenjhfkdbmljnaaMemB
import Derived.Test.YtenjhfkdbmljnaaShelf
namespace Go.Proofs.Ytenjhfkdbmljnaa
open Go.RowKit
set_option linter.unusedVariables false

/-- What the builder b has been told. -/
def BuiltIn (b : Nat) (w0 : World) (acc : List UInt8) (W : World) : Prop :=
  Lib.IsBuilderF 58 5 b b (Lib.byteCells acc) W ∧ Below b w0 W

set_option maxHeartbeats 1000000 in
theorem writes_any (b : Nat) (w0 : World) (acc : List UInt8) (s : ByteArray) (W : World) (hI : BuiltIn b w0 acc W) (hb0 : b ≤ w0.heap.size) (hM : acc.length + s.data.toList.length ≤ 140000000) :
    Calls Try.prog 37 #[.string s, .pointer (some ⟨b, 0, none⟩)] W fun e W' => e = .returned (.tuple #[]) ∧ BuiltIn b w0 (acc ++ s.data.toList) W' ∧ Oth b W W' := by
  obtain ⟨hbu, hbel⟩ := hI
  have hss : s.size = s.data.toList.length := by simp
  have HW := Lib.hid (Try.Builder_WriteString_k b b (Lib.byteCells acc) s W hbu (by rw [Lib.byteCells_length, hss]; omega) (by have := hbel.size; omega))
  clear hss
  go_enter Try.func37, Try.ntmps37
  go_wp2_with fail
  refine HW.out.mono ?_
  rintro e W1 ⟨rfl, h1, hb1, hk1⟩
  go_wp2_with fail
  go_end0
  refine ⟨rfl, ⟨.inr ?_, hbel.trans hb1⟩, hk1⟩
  rw [Lib.byteCells_append, ← Lib.strCells_eq]
  exact h1

theorem isBuilder_lt {b : Nat} {bs : List Value} {W : World} (h : Lib.IsBuilderF 58 5 b b bs W) : b < W.heap.size := h.elim (·.lt) (·.lt)

theorem out_writes (b : Nat) (w0 : World) (hb0 : b ≤ w0.heap.size) : Out b w0 37 b 140000000 (BuiltIn b w0) where
  ent := fun args w => enters_of Try.func37 (by kernel_rfl) rfl args w
  call := fun acc s W hI hM => writes_any b w0 acc s W hI hb0 hM
  bel := fun acc W h => h.2
  new := fun acc W W' h hb => ⟨builder_below h.1 hb, h.2.trans (hb.mono (Nat.le_of_lt (isBuilder_lt h.1)))⟩
  lt := fun acc W h => isBuilder_lt h.1

/-- How much the counter b has been told. -/
def CountIn (b : Nat) (w0 : World) (acc : List UInt8) (W : World) : Prop :=
  W.heap[b]? = some (.cells #[.int .i64 (acc.length : Int)] 3 (0, 0)) ∧ Below b w0 W

theorem count_lt {b : Nat} {w0 : World} {acc : List UInt8} {W : World} (h : CountIn b w0 acc W) : b < W.heap.size := (Array.getElem?_eq_some_iff.1 h.1).1

set_option maxHeartbeats 1000000 in
theorem counts_any (b : Nat) (w0 : World) (acc : List UInt8) (s : ByteArray) (W : World) (hI : CountIn b w0 acc W) (hM : acc.length + s.data.toList.length ≤ 140000000) :
    Calls Try.prog 23 #[.string s, .pointer (some ⟨b, 0, none⟩)] W fun e W' => e = .returned (.tuple #[]) ∧ CountIn b w0 (acc ++ s.data.toList) W' ∧ Oth b W W' := by
  obtain ⟨hbk, hbel⟩ := hI
  have hss : s.size = s.data.toList.length := by simp
  have c0 : W.cell? ⟨b, 0, none⟩ = some (.int .i64 (acc.length : Int)) := cell_at hbk 0
  have f0 : W.frozen? ⟨b, 0, none⟩ = false := by simp [World.frozen?, hbk]
  have hwr : IntKind.i64.wrap ((acc.length : Int) + (s.size : Int)) = (acc.length : Int) + (s.size : Int) := by rw [IntKind.wrap_i64]; omega
  have HS := Lib.hid hss
  have HK := Lib.hid hbk
  clear hss hbk
  go_enter Try.func23, Try.ntmps23
  go_wp2_with fail
  go_end0
  refine ⟨rfl, ⟨?_, hbel.setCell (p := ⟨b, 0, none⟩) (Nat.le_refl _) _⟩, (Lib.OthersKept.refl _ _ W).setCell ⟨b, 0, none⟩ rfl _⟩
  rw [List.length_append, ← HS.out]
  have := HK.out
  simp [World.setCell, Array.getElem?_modify, this]

theorem out_counts (b : Nat) (w0 : World) : Out b w0 23 b 140000000 (CountIn b w0) where
  ent := fun args w => enters_of Try.func23 (by kernel_rfl) rfl args w
  call := fun acc s W hI hM => counts_any b w0 acc s W hI hM
  bel := fun acc W h => h.2
  new := fun acc W W' h hb => ⟨(hb.block b (count_lt h)).trans h.1, h.2.trans (hb.mono (Nat.le_of_lt (count_lt h)))⟩
  lt := fun acc W h => count_lt h

set_option maxHeartbeats 1000000 in
/-- write.joined: what a function tells, as one text. -/
theorem joined_any (tf : FuncId) (p : Nat) (X : List UInt8) (W : World) (hent : ∀ args w, (callFunc tf args).run Try.prog w = .ok (.enter tf args) w) (hX : X.length ≤ 140000000)
    (ht : ∀ W1, BuiltIn W.heap.size W [] W1 → Below W.heap.size W W1 → Calls Try.prog tf #[.func (.func 37) #[] #[.pointer (some ⟨W.heap.size, 0, none⟩)], .pointer (some ⟨p, 0, none⟩)] W1 (Told (BuiltIn W.heap.size W) W.heap.size W1 X)) :
    Calls Try.prog 20 #[.func (.func tf) #[] #[.pointer (some ⟨p, 0, none⟩)]] W fun e W' => e = .returned (.string ⟨X.toArray⟩) ∧ Below W.heap.size W W' := by
  have h0 : BuiltIn W.heap.size W [] (W.alloc (.cells #[.pointer none, .slice none 0 0] 58)) := ⟨Lib.IsBuilderF.of (Lib.fresh_isBuilder _ _ W), (Below.refl _ W).alloc (Nat.le_refl _) _⟩
  have HT := Lib.hid (ht _ h0 h0.2)
  clear ht
  go_enter Try.func20, Try.ntmps20
  go_wp2_with fail
  refine HT.out.mono ?_
  rintro e W2 ⟨rfl, hI2, hK2⟩
  have HS := Lib.hid (Try.Builder_String_any_k W.heap.size W.heap.size X W2 hI2.1 hI2.2.size)
  go_wp2_with fail
  refine HS.out.mono ?_
  rintro e W3 ⟨rfl, _, hb3, _⟩
  go_wp2_with fail
  go_ret
  exact ⟨rfl, hI2.2.trans hb3⟩

end Go.Proofs.Ytenjhfkdbmljnaa
