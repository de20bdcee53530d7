/- WriteGrows: its walk. -/
import Derived.Test.YtenjhfkdbmljnaaWLawB
namespace Go.Proofs.Ytenjhfkdbmljnaa
open Go.RowKit
set_option linter.unusedVariables false

def WL' (n : Nat) (w : World) (an av nm kt : ByteArray) : World :=
  ((w.alloc (.cells #[.string an, .string av] 35)).alloc (.cells #[.int .i64 2, .string ⟨#[]⟩, .slice none 0 0, .string kt, .slice none 0 0] 29)).alloc
    (.cells #[.int .i64 1, .string nm, .slice (some ⟨n, 0, none⟩) 1 1, .string ⟨#[]⟩, .slice (some ⟨n + 1, 0, none⟩) 1 1] 29)
theorem WL_eq (w : World) (n : Nat) (h : w.heap.size = n) (an av nm kt : ByteArray) : WL' n w an av nm kt = WL w an av nm kt := by subst h; rfl

/-- The two lengths that the law asks for, in the worlds its lists make. -/
theorem grow_calls (w2 : World) (t v : ByteArray) (ht : t.size ≤ 160) (hv : v.size ≤ 160) :
    (Calls Try.prog 9 #[.slice (some ⟨w2.heap.size + 1 + 1 + 1, 0, none⟩) 1 1]
        (WL' (w2.heap.size + 1) (w2.alloc (.cells #[.int .i64 1, .string ⟨#[98]⟩, .slice none 0 0, .string ⟨#[]⟩, .slice none 0 0] 29)) ⟨#[105, 100]⟩ v ⟨#[98]⟩ (t ++ (⟨#[120]⟩ : ByteArray))) fun e w' =>
      e = .returned (.int .i64 ((txtL false [elt idA v bS (t ++ (⟨#[120]⟩ : ByteArray))]).length : Int)) ∧ Below w2.heap.size w2 w' ∧ Below (w2.heap.size + 1) (w2.alloc (.cells #[.int .i64 1, .string ⟨#[98]⟩, .slice none 0 0, .string ⟨#[]⟩, .slice none 0 0] 29)) w') ∧
    ∀ w3, Below (w2.heap.size + 1) (w2.alloc (.cells #[.int .i64 1, .string ⟨#[98]⟩, .slice none 0 0, .string ⟨#[]⟩, .slice none 0 0] 29)) w3 →
      Calls Try.prog 9 #[.slice (some ⟨w2.heap.size, 0, none⟩) 1 1] w3 fun e w' =>
      e = .returned (.int .i64 ((txtL false [bareE bS]).length : Int)) ∧ Below w2.heap.size w2 w' := by
  obtain ⟨W, hW⟩ : ∃ W, w2.alloc (.cells #[.int .i64 1, .string ⟨#[98]⟩, .slice none 0 0, .string ⟨#[]⟩, .slice none 0 0] 29) = W := ⟨_, rfl⟩
  have hT := tree_bare w2 ⟨#[98]⟩
  have hWs : W.heap.size = w2.heap.size + 1 := by rw [← hW]; simp
  have hb0 : Below w2.heap.size w2 W := by rw [← hW]; exact below_new _ _
  rw [hW] at hT ⊢
  rw [WL_eq W _ hWs, show w2.heap.size + 1 + 1 + 1 = W.heap.size + 2 by omega]
  have hb1 : Below W.heap.size W (WL W idA v bS (t ++ (⟨#[120]⟩ : ByteArray))) := below_WL _ _ _ _ _
  refine ⟨(length_any _ _ _ _ (tree_elt W idA v bS (t ++ (⟨#[120]⟩ : ByteArray))) (fun b h => h) ?_).mono ?_, fun w3 h3 => (length_any _ _ _ _ (hT.stay h3) (fun b hb => Nat.lt_of_lt_of_le hb (by have := h3.size; omega)) ?_).mono ?_⟩
  · have e1 : (⟨#[120]⟩ : ByteArray).size = 1 := rfl
    have e2 : bS.size = 1 := rfl
    have e3 : idA.size = 2 := rfl
    rw [sz_elt, ByteArray.size_append]
    omega
  · rintro e w' ⟨rfl, hb⟩
    have h := below_after hb1 hb
    refine ⟨rfl, below_after hb0 h, ?_⟩
    rw [← hWs]
    exact h
  · decide +kernel
  · rintro e w' ⟨rfl, hb⟩
    have h3' : Below W.heap.size W w3 := by rw [hWs]; exact h3
    exact ⟨rfl, below_after hb0 (below_after h3' hb)⟩

theorem bsz (l : List UInt8) : (⟨l.toArray⟩ : ByteArray).size = l.length := by simp [ByteArray.size]
theorem grow_facts (w2 : World) (t v : ByteArray) (ht : t.size ≤ 160) (hv : v.size ≤ 160) : ∃ (L1 L2 : Nat) (u1 u2 : ByteArray),
    (∀ w, Calls Try.prog 17 #[.string v, .bool true] w fun e w' => e = .returned (.string u1) ∧ w = w') ∧
    (∀ w, Calls Try.prog 17 #[.string (t ++ (⟨#[120]⟩ : ByteArray)), .bool false] w fun e w' => e = .returned (.string u2) ∧ w = w') ∧
    (((L1 : Int) == (L2 : Int) + 6 + (u1.size : Int) + (u2.size : Int)) = true) ∧ L2 ≤ 1000 ∧ (u1.size ≤ 1000 ∧ u2.size ≤ 1000) ∧
    (Calls Try.prog 9 #[.slice (some ⟨w2.heap.size + 1 + 1 + 1, 0, none⟩) 1 1]
        (WL' (w2.heap.size + 1) (w2.alloc (.cells #[.int .i64 1, .string ⟨#[98]⟩, .slice none 0 0, .string ⟨#[]⟩, .slice none 0 0] 29)) ⟨#[105, 100]⟩ v ⟨#[98]⟩ (t ++ (⟨#[120]⟩ : ByteArray))) fun e w' =>
      e = .returned (.int .i64 (L1 : Int)) ∧ Below w2.heap.size w2 w' ∧ Below (w2.heap.size + 1) (w2.alloc (.cells #[.int .i64 1, .string ⟨#[98]⟩, .slice none 0 0, .string ⟨#[]⟩, .slice none 0 0] 29)) w') ∧
    ∀ w3, Below (w2.heap.size + 1) (w2.alloc (.cells #[.int .i64 1, .string ⟨#[98]⟩, .slice none 0 0, .string ⟨#[]⟩, .slice none 0 0] 29)) w3 →
      Calls Try.prog 9 #[.slice (some ⟨w2.heap.size, 0, none⟩) 1 1] w3 fun e w' =>
      e = .returned (.int .i64 (L2 : Int)) ∧ Below w2.heap.size w2 w' := by
  have hz : (t ++ (⟨#[120]⟩ : ByteArray)).size ≤ 161 := by
    rw [ByteArray.size_append]
    have e1 : (⟨#[120]⟩ : ByteArray).size = 1 := rfl
    omega
  have hg := grow_len v (t ++ (⟨#[120]⟩ : ByteArray))
  have h1 := (escB_len true v.data.toList).2
  have h2 := (escB_len false (t ++ (⟨#[120]⟩ : ByteArray)).data.toList).2
  have s1 : v.data.toList.length = v.size := by simp
  have s2 : (t ++ (⟨#[120]⟩ : ByteArray)).data.toList.length = (t ++ (⟨#[120]⟩ : ByteArray)).size := by rw [Array.length_toList]; rfl
  have h3 : (txtL false [bareE bS]).length ≤ 1000 := by
    refine Nat.le_trans (txt_len _ _) ?_
    decide +kernel
  have z1 : (⟨(escB true v.data.toList).toArray⟩ : ByteArray).size = (escB true v.data.toList).length := by simp [ByteArray.size]
  have z2 : (⟨(escB false (t ++ (⟨#[120]⟩ : ByteArray)).data.toList).toArray⟩ : ByteArray).size = (escB false (t ++ (⟨#[120]⟩ : ByteArray)).data.toList).length := bsz _
  have hc := grow_calls w2 t v ht hv
  refine ⟨_, _, _, _, fun w => escapeR_any v true w (by omega), fun w => escapeR_any _ false w (by omega), ?_, h3, ⟨?_, ?_⟩, hc.1, hc.2⟩
  · rw [z1, z2, hg]
    simp only [beq_iff_eq]
    omega
  · rw [z1]; omega
  · rw [z2]; omega

set_option maxHeartbeats 2000000 in
set_option maxRecDepth 100000 in
theorem writeGrows_end (A1 : Option Addr) (n1 c1 : Nat) (l1 : List UInt8) (A2 : Option Addr) (n2 c2 : Nat) (l2 : List UInt8) (w : World) (hs1 : Sits w w.heap.size A1 (Lib.byteCells l1)) (hn1 : n1 = l1.length) (hc1 : n1 ≤ c1) (hm1 : n1 ≤ maxLen)
    (hs2 : Sits w w.heap.size A2 (Lib.byteCells l2)) (hn2 : n2 = l2.length) (hc2 : n2 ≤ c2) (hm2 : n2 ≤ maxLen) :
    Calls Try.prog 6 #[.slice A1 n1 c1, .slice A2 n2 c2] w fun e w' => e = .returned (.bool true) ∧ Below w.heap.size w w' := by
  unfold maxLen at hm1 hm2
  have cut : ∀ (A : Option Addr) (n c : Nat) (l : List UInt8), Sits w w.heap.size A (Lib.byteCells l) → n = l.length → n ≤ c → ∃ (m : Nat) (l' : List UInt8), Sits w w.heap.size A (Lib.byteCells l') ∧ m = l'.length ∧ m ≤ c ∧ m ≤ 40 ∧
      (40 < n → m = 40) ∧ (¬ 40 < n → m = n) := by
    intro A n c l hs hn hc
    have ht : Lib.byteCells (l.take 40) = (Lib.byteCells l).take 40 := by unfold Lib.byteCells; rw [List.map_take]
    refine ⟨(l.take 40).length, l.take 40, by rw [ht]; exact hs.take 40, rfl, ?_, ?_, fun h => ?_, fun h => ?_⟩
    all_goals rw [List.length_take]
    all_goals omega
  obtain ⟨m1, k1, hk1, hl1, hmc1, hm40, ha1, hb1⟩ := cut A1 n1 c1 l1 hs1 hn1 hc1
  obtain ⟨m2, k2, hk2, hl2, hmc2, hn40, ha2, hb2⟩ := cut A2 n2 c2 l2 hs2 hn2 hc2
  have HR1 := Lib.hid (rightZ_any A1 m1 c1 k1 w hk1 hl1 hmc1 (by omega))
  have HR2 := Lib.hid (fun (W : World) (hb : Below w.heap.size w W) => rightZ_any A2 m2 c2 k2 W ((hk2.below hb).more hb.size) hl2 hmc2 (by omega))
  have HC1 := Lib.hid (fun (W : World) (h : 40 ≤ c1) => cut_head W A1 n1 c1 40 h)
  have HC2 := Lib.hid (fun (W : World) (h : 40 ≤ c2) => cut_head W A2 n2 c2 40 h)
  clear cut hs1 hs2 hn1 hn2 hk1 hk2 hl1 hl2
  by_cases h1 : 40 < n1
  case' pos =>
    obtain rfl := ha1 h1
    have s1 : ∀ W, (Instr.slice 38 (.slice A1 n1 c1) none (some (.int .i64 40)) none).run Try.prog W = .ok (.slice A1 40 c1) W := fun W => HC1.out W hmc1
  case' neg => obtain rfl := hb1 h1
  all_goals
    by_cases h2 : 40 < n2
    case' pos =>
      obtain rfl := ha2 h2
      have s2 : ∀ W, (Instr.slice 38 (.slice A2 n2 c2) none (some (.int .i64 40)) none).run Try.prog W = .ok (.slice A2 40 c2) W := fun W => HC2.out W hmc2
    case' neg => obtain rfl := hb2 h2
    all_goals
      clear ha1 hb1 ha2 hb2
      go_enter Try.func6, Try.ntmps6
      go_wp2_with fail
      refine HR1.out.mono ?_
      rintro e w1 ⟨t, rfl, ht, hb1⟩
      go_wp2_with fail
      refine (HR2.out w1 hb1).mono ?_
      rintro e w2 ⟨v, rfl, hv, hb2⟩
      have hB2 := below_after hb1 hb2
      have htz : t.size ≤ 160 := by omega
      have hvz : v.size ≤ 160 := by omega
      clear hb1 hb2 ht hv h1 h2
      go_wp2_with fail
      obtain ⟨L1, L2, u1, u2, hg⟩ := grow_facts w2 t v htz hvz
      have HE := Lib.hid hg.1
      have HE2 := Lib.hid hg.2.1
      have HC := Lib.hid hg.2.2.2.2.2.1
      have HD := Lib.hid hg.2.2.2.2.2.2
      have BE := hg.2.2.1
      have b1 := hg.2.2.2.1
      have b2 := hg.2.2.2.2.1
      clear hg
      change Calls _ _ _ (WL' (w2.heap.size + 1) (w2.alloc (.cells #[.int .i64 1, .string ⟨#[98]⟩, .slice none 0 0, .string ⟨#[]⟩, .slice none 0 0] 29)) ⟨#[105, 100]⟩ v ⟨#[98]⟩ (t ++ (⟨#[120]⟩ : ByteArray))) _
      refine HC.out.mono ?_
      rintro e w3 ⟨rfl, hb3', hb3⟩
      go_wp2_with fail
      refine (HD.out w3 hb3).mono ?_
      rintro e w4 ⟨rfl, hb4⟩
      have HBB := Lib.hid (below_after hB2 hb4)
      clear hb3 hb3' hb4 hB2
      go_wp2_with fail
      refine (HE.out w4).mono ?_
      rintro e w5 ⟨rfl, rfl⟩
      go_wp2_with fail
      refine (HE2.out w4).mono ?_
      rintro e w6 ⟨rfl, rfl⟩
      go_wp2_with fail
      refine (lives4_any w4).mono ?_
      rintro e w7 ⟨rfl, hb7⟩
      have HB7 := Lib.hid (below_after HBB.out hb7)
      clear hb7
      go_wp2_with fail
      go_ret
      exact ⟨rfl, HB7.out⟩

end Go.Proofs.Ytenjhfkdbmljnaa
