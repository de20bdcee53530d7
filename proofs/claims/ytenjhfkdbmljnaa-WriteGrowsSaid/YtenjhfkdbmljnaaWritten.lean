/- refs.written: its walk. -/
import Derived.Test.YtenjhfkdbmljnaaMem
import Derived.Test.YtenjhfkdbmljnaaRefM
namespace Go.Proofs.Ytenjhfkdbmljnaa
open Go.RowKit
set_option linter.unusedVariables false

set_option maxHeartbeats 400000 in
theorem written_ref (u : UInt8) (v : Bool) (w : World) :
    Calls Try.prog 52 #[.int .u8 u.toNat, .bool v] w fun e w' => e = .returned (.string ⟨(wrB v u).toArray⟩) ∧ w = w' := by
  by_cases a : u = 38
  · subst a
    have hd := Lib.hid (show wrB v 38 = [38, 97, 109, 112, 59] from rfl)
    go_enter Try.func52, Try.ntmps52
    go_wp2
    go_ret
    rw [hd.out]
    exact ⟨rfl, rfl⟩
  by_cases b : u = 60
  · subst b
    have hd := Lib.hid (show wrB v 60 = [38, 108, 116, 59] from rfl)
    go_enter Try.func52, Try.ntmps52
    go_wp2
    go_ret
    rw [hd.out]
    exact ⟨rfl, rfl⟩
  by_cases c : u = 62
  · subst c
    have hd := Lib.hid (show wrB v 62 = [38, 103, 116, 59] from rfl)
    go_enter Try.func52, Try.ntmps52
    go_wp2
    go_ret
    rw [hd.out]
    exact ⟨rfl, rfl⟩
  by_cases d : u = 34
  · subst d
    cases v with
    | true =>
      have hd := Lib.hid (show wrB true 34 = [38, 113, 117, 111, 116, 59] from rfl)
      go_enter Try.func52, Try.ntmps52
      go_wp2
      go_ret
      rw [hd.out]
      exact ⟨rfl, rfl⟩
    | false =>
      have hd := Lib.hid (show wrB false 34 = [] from rfl)
      go_enter Try.func52, Try.ntmps52
      go_wp2
      go_ret
      rw [hd.out]
      exact ⟨rfl, rfl⟩
  have hn : ∀ n : Nat, n < 256 → u ≠ n.toUInt8 → ((u.toNat : Int) == (n : Int)) = false := by
    intro n h1 h2
    rw [beq_eq_false_iff_ne]
    intro e
    apply h2
    apply UInt8.toNat_inj.1
    simp
    omega
  have A : ((u.toNat : Int) == 38) = false := hn 38 (by omega) a
  have B : ((u.toNat : Int) == 60) = false := hn 60 (by omega) b
  have C : ((u.toNat : Int) == 62) = false := hn 62 (by omega) c
  have D : ((u.toNat : Int) == 34) = false := hn 34 (by omega) d
  have hd := Lib.hid (show wrB v u = [] by unfold wrB; rw [if_neg a, if_neg b, if_neg c, if_neg (fun h => d h.1)])
  clear hn a b c d
  go_enter Try.func52, Try.ntmps52
  go_wp2
  go_ret
  rw [hd.out]
  exact ⟨rfl, rfl⟩

end Go.Proofs.Ytenjhfkdbmljnaa
