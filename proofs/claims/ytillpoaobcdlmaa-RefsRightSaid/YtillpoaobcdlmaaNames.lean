/- refs.names: its walk. -/
import Derived.Test.YtillpoaobcdlmaaMap
import Derived.Test.YtillpoaobcdlmaaMemB
namespace Go.Proofs.Ytillpoaobcdlmaa
open Go.RowKit Go.Maps
set_option linter.unusedVariables false

set_option maxHeartbeats 2000000 in
set_option maxRecDepth 100000 in
theorem names_any (w : World) :
    Calls Try.prog 22 #[] w fun e w' => ∃ b, e = .returned (.map (some b)) ∧ Names w' b 15 nameB ∧ Below w.heap.size w w' := by
  have hmm := @run_makeMap Try.prog
  go_enter Try.func22, Try.ntmps22
  have h0 : Names (w.alloc (.map #[] 0)) w.heap.size 0 (fun _ => none) := Names.made w
  have b0 : Below w.heap.size w (w.alloc (.map #[] 0)) := (Below.refl _ _).alloc (Nat.le_refl _) _
  go_wp2_with (refine wpList_names (w0 := w) rfl _ _ _ rfl w.heap.size _ _ (by assumption) (by assumption) (Nat.le_refl _) rfl (by omega) _ _ rfl rfl (by decide) (by decide) ?_; intro wn hn hbn)
  go_ret
  exact ⟨_, rfl, hn, hbn⟩

end Go.Proofs.Ytillpoaobcdlmaa
