/- Plain facts on bytes: small letters; beginnings. No program in it. -/
import Derived.WalkKit
namespace Go.Proofs.Ytgkbgcaajfjjpaa

/-- A byte with A to Z as a to z. -/
def lowB (c : UInt8) : UInt8 := if 65 ≤ c.toNat ∧ c.toNat ≤ 90 then c + 32 else c

theorem lowB_toNat (c : UInt8) : (lowB c).toNat = if 65 ≤ c.toNat ∧ c.toNat ≤ 90 then c.toNat + 32 else c.toNat := by
  unfold lowB
  split
  · rename_i h
    rw [UInt8.toNat_add]
    show (c.toNat + 32) % 256 = _
    omega
  · rfl

theorem lowB_up (c : UInt8) : ¬ (65 ≤ (lowB c).toNat ∧ (lowB c).toNat ≤ 90) := by
  rw [lowB_toNat]
  split <;> omega

theorem lowB_low (c : UInt8) : lowB (lowB c) = lowB c := by
  have h := lowB_up c
  show (if _ then _ else _) = _
  rw [if_neg h]

end Go.Proofs.Ytgkbgcaajfjjpaa
