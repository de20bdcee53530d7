/- Which texts are names: plain facts. -/
import Derived.Test.YtenjhfkdbmljnaaMathW
namespace Go.Proofs.Ytenjhfkdbmljnaa
set_option linter.unusedVariables false

/-- A letter a to z; a byte of an element's name; one that an attribute's name may have. -/
def smC (c : UInt8) : Bool := decide (97 ≤ c.toNat) && decide (c.toNat ≤ 122)
def namC (c : UInt8) : Bool := smC c || (decide (48 ≤ c.toNat) && decide (c.toNat ≤ 57)) || decide (c.toNat = 45)
def attC (c : UInt8) : Bool := !((decide (65 ≤ c.toNat) && decide (c.toNat ≤ 90)) || decide (c.toNat = 9) || decide (c.toNat = 10) || decide (c.toNat = 12) || decide (c.toNat = 32) || decide (c.toNat = 47) || decide (c.toNat = 62) || decide (c.toNat = 61))
def namedB : List UInt8 → Bool
  | [] => false
  | c :: t => smC c && (c :: t).all namC
def attrB (l : List UInt8) : Bool := isB l && l.all attC && !l.isEmpty
def voidB (l : List UInt8) : Bool := decide (l = [98, 114]) || decide (l = [104, 114]) || decide (l = [105, 109, 103]) || decide (l = [105, 110, 112, 117, 116]) || decide (l = [119, 98, 114])
def rawB (l : List UInt8) : Bool := decide (l = [115, 99, 114, 105, 112, 116]) || decide (l = [115, 116, 121, 108, 101])

theorem all_false {p : UInt8 → Bool} {l : List UInt8} {k : Nat} {c : UInt8} (h : l[k]? = some c) (hp : p c = false) : l.all p = false := by
  rw [List.all_eq_false]
  exact ⟨c, List.mem_of_getElem? h, by rw [hp]; simp⟩
theorem all_snoc (p : UInt8 → Bool) (l : List UInt8) (c : UInt8) : (l ++ [c]).all p = (l.all p && p c) := by simp

/-- A name's bytes are below 128: it is right. -/
theorem asc_right : ∀ (l : List UInt8), (∀ c ∈ l, c.toNat < 128 ∧ c.toNat ≠ 0 ∧ c.toNat ≠ 13) → isB l = true
  | [], _ => rfl
  | c :: t, h => by
    have hc := h c (by simp)
    have e : dec (c :: t) = (c.toNat, 1) := by
      unfold dec
      have e : byt (c :: t) 0 = c.toNat := rfl
      rw [e, if_pos hc.1]
    rw [isB_step (by simp)]
    unfold okAt
    rw [e]
    simp only [List.drop_succ_cons, List.drop_zero]
    rw [asc_right t (fun x hx => h x (by simp [hx]))]
    have h1 : ¬ c.toNat = 65533 := by omega
    simp [hc.2.1, hc.2.2, h1]
theorem namC_asc {c : UInt8} (h : namC c = true) : c.toNat < 128 ∧ c.toNat ≠ 0 ∧ c.toNat ≠ 13 := by
  unfold namC smC at h
  simp at h
  omega
theorem namedB_right {l : List UInt8} (h : namedB l = true) : isB l = true := by
  refine asc_right l fun c hc => ?_
  cases l with
  | nil => cases hc
  | cons a t =>
    unfold namedB at h
    rw [Bool.and_eq_true, List.all_eq_true] at h
    exact namC_asc (h.2 c hc)

end Go.Proofs.Ytenjhfkdbmljnaa
