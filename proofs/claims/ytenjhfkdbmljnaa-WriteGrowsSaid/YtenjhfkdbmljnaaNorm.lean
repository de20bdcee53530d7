/- Plain facts on characters made right, step by step. -/
import Derived.Test.YtenjhfkdbmljnaaMathU
namespace Go.Proofs.Ytenjhfkdbmljnaa
set_option linter.unusedVariables false

theorem norm_13 (a : Int) (t : List Int) : norm a (13 :: t) = 10 :: norm 13 t := by simp [norm]
theorem norm_10 (t : List Int) : norm 13 (10 :: t) = norm 10 t := by simp [norm]
theorem norm_0 (a : Int) (t : List Int) : norm a (0 :: t) = 65533 :: norm 0 t := by simp [norm]
theorem norm_r {a r : Int} (t : List Int) (h1 : r ≠ 13) (h2 : ¬ (r = 10 ∧ a = 13)) (h3 : r ≠ 0) : norm a (r :: t) = r :: norm r t := by
  show (if r = 13 then [10] else if r = 10 ∧ a = 13 then [] else if r = 0 then [65533] else [r]) ++ norm r t = _
  rw [if_neg h1, if_neg h2, if_neg h3]
  rfl

end Go.Proofs.Ytenjhfkdbmljnaa
