/- strainerref03.Good: its walk. -/
import Derived.Test.YtenjhfkdbmljnaaGoodR
namespace Go.Proofs.Ytenjhfkdbmljnaa
open Go.RowKit
set_option linter.unusedVariables false

theorem OwnC.lower {w : World} {base lo base' lo' : Nat} {l : List Nd} {v : Value} (h : OwnC w base lo l v) (hb : base' ≤ base) (hl : lo' ≤ lo) : OwnC w base' lo' l v := by
  obtain ⟨R, h1, h2, h3, h4, _⟩ := h
  exact ⟨R, h1, own_more h2 hb, fun r hr => (h3 r hr).mono fun b hb => ⟨Nat.le_trans hl hb.1, hb.2⟩, fun r hr => (h4 r hr).mono fun b hb => ⟨Nat.le_trans hl hb.1, hb.2⟩, fun g hg hs => hs.2.2 hg⟩

/-- What Good tells: nodes that may be, of the call's own, of a bounded size. -/
def GoodEnd (w : World) (e : Ending) (w' : World) : Prop :=
  ∃ (G : List Nd) (v : Value), e = .returned v ∧ OwnC w' w.heap.size w.heap.size G v ∧ GoodL G ∧ szL G ≤ 67200 ∧ Below w.heap.size w w'

/-- .. and it keeps the shape of a list of plain elements. -/
def GoodEndK (w : World) (l : List Nd) (e : Ending) (w' : World) : Prop :=
  ∃ (G : List Nd) (v : Value), e = .returned v ∧ OwnC w' w.heap.size w.heap.size G v ∧ GoodL G ∧ szL G ≤ 67200 ∧ Below w.heap.size w w' ∧ Kp l G

theorem Kp.trans {a b c : List Nd} (h : Kp a b) (h2 : Kp b c) : Kp a c := ⟨fun x => h2.1 (h.1 x), fun x => h2.2 (h.2 x)⟩

theorem goodK_any (l : List Nd) (v : Value) (w : World) (hT : Tree (· < w.heap.size) w l v) (hF : Fine l) : Calls Try.prog 7 #[v] w (GoodEndK w l) := by
  have hf := Lib.hid (few_any l v w hT hF)
  clear hT hF
  go_enter Try.func7, Try.ntmps7
  go_wp2_with fail
  refine hf.out.mono ?_
  rintro e w1 ⟨out, v1, rfl, hown, hsz, hb1, hkp1⟩
  have ht := hown.tree (Nat.le_refl _)
  have HG := Lib.hid (good_any out (fun b => w.heap.size ≤ b ∧ b < w1.heap.size) v1 w1 ht (fun b hb => hb.2) (by omega))
  clear ht hown
  go_wp2_with fail
  refine HG.out.mono ?_
  rintro e w2 ⟨G, v2, rfl, hG, hGz, hGok, hb2, hkp2⟩
  have hB2 := below_after hb1 hb2
  go_wp2_with fail
  go_ret
  exact ⟨G, v2, rfl, hG.lower hb1.size hb1.size, hGok, by omega, hB2, hkp1.trans hkp2⟩

theorem goodR_any (l : List Nd) (v : Value) (w : World) (hT : Tree (· < w.heap.size) w l v) (hF : Fine l) : Calls Try.prog 7 #[v] w (GoodEnd w) := by
  refine (goodK_any l v w hT hF).mono ?_
  rintro e w' ⟨G, v2, rfl, h1, h2, h3, h4, _⟩
  exact ⟨G, v2, rfl, h1, h2, h3, h4⟩

end Go.Proofs.Ytenjhfkdbmljnaa
