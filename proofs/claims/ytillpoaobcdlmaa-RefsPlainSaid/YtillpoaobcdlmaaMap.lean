/- A map from texts to characters that the call itself made, filled by a literal: what it holds. -/
import Derived.Test.YtillpoaobcdlmaaMem
import Derived.Test.YtillpoaobcdlmaaRefM
import Derived.Maps.Own
import Derived.Maps.OwnOps
import Derived.Maps.OwnSet
import Derived.Maps.Views
import Derived.StringKeys
namespace Go.Proofs.Ytillpoaobcdlmaa
open Go.RowKit Go.Maps
set_option linter.unusedVariables false

theorem strKeyed : Keyed Try.prog 9 := string_keyed Try.underlying9
theorem zero32 (w : World) : (zeroValue 21).run Try.prog w = .ok (.int .i32 0) w := by kernel_rfl

/-- What a datum says of texts. -/
def View (D : DataW Unit) (f : List UInt8 → Option Int) : Prop :=
  IsMap D ∧ ∀ l, Maps.has D (.string l) = (f l).isSome ∧ ∀ z, D.atKey (.string l) z = match f l with | some r => .lit (.int .i32 r) | none => z

theorem View.empty : View (.map []) (fun _ => none) := ⟨isMap_empty, fun l => ⟨rfl, fun z => rfl⟩⟩

theorem View.put {D : DataW Unit} {f : List UInt8 → Option Int} (h : View D f) (k : List UInt8) (v : Int) : View (D.put (.string k) (.lit (.int .i32 v))) (updF f k v) := by
  refine ⟨h.1.put _ _, fun l => ?_⟩
  unfold updF
  by_cases e : l = k
  · subst e
    rw [if_pos rfl]
    exact ⟨has_put_same h.1 (show WideAt.IsKeyLit (.string l) from trivial) _, fun z => atKey_put_same h.1 (show WideAt.IsKeyLit (.string l) from trivial) _ z⟩
  · rw [if_neg e]
    have hne : (Lit.string l) ≠ .string k := by intro h; injection h; exact e ‹_›
    refine ⟨?_, fun z => ?_⟩
    · rw [has_put_other hne]; exact (h.2 l).1
    · rw [atKey_put_other hne]; exact (h.2 l).2 z

/-- Block b is a map of at most n entries that holds just what f tells. -/
def Names (w : World) (b n : Nat) (f : List UInt8 → Option Int) : Prop := ∃ D : DataW Unit, w.ownsMap Try.prog 9 (plainElem Try.prog 21) b n D ∧ View D f

theorem Names.below {w w' : World} {b n : Nat} {f : List UInt8 → Option Int} (h : Names w b n f) (hb : Below w.heap.size w w') : Names w' b n f := by
  obtain ⟨D, ⟨es, clock, hh, F, hs, hD⟩, hv⟩ := h
  have hlt := (Array.getElem?_eq_some_iff.1 hh).1
  exact ⟨D, ⟨es, clock, (hb.block b hlt).trans hh, F, hs, hD⟩, hv⟩

theorem Names.lt {w : World} {b n : Nat} {f : List UInt8 → Option Int} (h : Names w b n f) : b < w.heap.size := by
  obtain ⟨D, h, _⟩ := h
  exact h.lt

theorem Names.made (w : World) : Names (w.alloc (.map #[] 0)) w.heap.size 0 (fun _ => none) := ⟨_, World.ownsMap_made _ _ _ _, View.empty⟩

/-- An entry of a map's literal. -/
theorem wpList_names {w0 w : World} {ops : Array Oper} {rest : List Oper} {o : Oper} {a : Act} {Q : Exit → Act → World → Prop}
    (hg : o.guard = none) (m x v : Operand) (hop : o.op = Op.insert 45 m x v)
    (b n : Nat) (f : List UInt8 → Option Int) (h : Names w b n f) (hb : Below w0.heap.size w0 w) (hbb : w0.heap.size ≤ b)
    (hm : a.eval m = .map (some b)) (hn : n < 1000) (k : ByteArray) (r : Int) (hx : a.eval x = .string k) (hv : a.eval v = .int .i32 r) (hk : k.size ≤ maxLen) (hr : (Lit.int .i32 r).wf = true)
    (hK : ∀ w', Names w' b (n + 1) (updF f k.data.toList r) → Below w0.heap.size w0 w' → wpList Try.prog ops Q rest (a.put o.dst undef) w') :
    wpList Try.prog ops Q (o :: rest) a w := by
  refine wpList_plain hg fun K' hK' => ?_
  obtain ⟨D, hown, hvw⟩ := h
  obtain ⟨w', hrun, r1, r2⟩ := hown.update strKeyed Try.underlying45 (by unfold maxLen; omega) (Go.WideMaps.keyOf_string_mk Try.underlying9 hk) (plainElem_int Try.underlying21 hr)
  unfold Oper.wp
  simp [execOp, hop, hm, hx, hv, hrun, Result.andThen]
  exact hK' _ _ (hK w' ⟨_, r1, hvw.put _ _⟩ (hb.grown r2 hb.size (fun g hg => by cases hg; exact hbb)))

/-- 'r, is := names[s]'. -/
theorem Names.look {w : World} {b n : Nat} {f : List UInt8 → Option Int} (h : Names w b n f) (k : ByteArray) (hk : k.size ≤ maxLen) :
    (Instr.lookup 45 (.map (some b)) (.string k) true).run Try.prog w = .ok (.tuple #[.int .i32 ((f k.data.toList).getD 0), .bool (f k.data.toList).isSome]) w := by
  obtain ⟨D, hown, hv⟩ := h
  obtain ⟨v, ps, hrun, hv2⟩ := hown.look_ok strKeyed Try.underlying45 (zero32 w) (plainElem_int (q := .i32) Try.underlying21 (by decide)) (Go.WideMaps.keyOf_string_mk Try.underlying9 hk)
  obtain ⟨c, rfl, hc, hwc⟩ := plainElem_int_inv Try.underlying21 hv2
  have h1 := (hv.2 k.data.toList).1
  have h2 := (hv.2 k.data.toList).2 (.lit (.int .i32 0))
  rw [hrun, h1]
  have h3 := congrArg Prod.fst hc
  simp only at h3
  rw [h3] at h2
  cases hf : f k.data.toList with
  | none => rw [hf] at h2; injection h2 with h2; injection h2 with _ h2; rw [h2]; rfl
  | some r => rw [hf] at h2; injection h2 with h2; injection h2 with _ h2; rw [h2]; rfl

end Go.Proofs.Ytillpoaobcdlmaa
