/- Parts of the proof, in build order: DomW DomM Is DNam TkK DTag DFlt StillIn. -/
import Derived.Test.YtoidjkkjnhnbhaaK13
import Derived.Test.YtoidjkkjnhnbhaaK02
import Derived.Test.YtoidjkkjnhnbhaaK06
import Derived.Test.YtoidjkkjnhnbhaaK12
import Derived.BigCall
import Derived.Lib.IndexBytes
import Derived.Test.YtoidjkkjnhnbhaaK08
import Derived.Test.YtoidjkkjnhnbhaaK11
import Derived.Test.YtoidjkkjnhnbhaaK01
import Derived.Maps.OwnSet
import Derived.Deep.RegionHeld3
import Derived.StillTailTactics

/- Part DomW. -/
namespace Go.Proofs.Ytoidjkkjnhnbhaa
open Go.RowKit Go.Shelf
set_option linter.unusedVariables false

attribute [local go_sem] Oper.semAt_some

theorem box_of {W : World} {B : Nat} {v : Value} {t : TypeId} (h : W.heap[B]? = some (.cells #[v] t (0, 0))) : W.cell? ⟨B, 0, none⟩ = some v ∧ W.frozen? ⟨B, 0, none⟩ = false := by
  constructor <;> simp [World.cell?, World.frozen?, h]
theorem box_new (W : World) (v : Value) (t : TypeId) : (W.alloc (.cells #[v] t)).cell? ⟨W.heap.size, 0, none⟩ = some v ∧ (W.alloc (.cells #[v] t)).frozen? ⟨W.heap.size, 0, none⟩ = false := box_of (World.alloc_heap_new W _)
theorem box_past {W : World} {a : Addr} {v : Value} (o : Obj) (h : W.cell? a = some v) : (W.alloc o).cell? a = some v := cell_kept h (World.grownBy_alloc W o none) (fun r e => by cases e)
theorem box_past_f {W : World} {a : Addr} {v : Value} (o : Obj) (h : W.cell? a = some v) (hf : W.frozen? a = false) : (W.alloc o).frozen? a = false := (frozen_kept h (World.grownBy_alloc W o none) (fun r e => by cases e)).trans hf

theorem keeps_of_below {w w' : World} (h : Below w.heap.size w w') : KeepsOthers w w' := ⟨h.size, fun j o hj _ => (h.block j (Array.getElem?_eq_some_iff.1 hj).1).trans hj⟩
theorem box_lt {w : World} {p : Addr} {v : Value} (h : w.cell? p = some v) : p.block < w.heap.size := by
  rcases Nat.lt_or_ge p.block w.heap.size with hlt | hge
  · exact hlt
  · unfold World.cell? at h
    rw [Array.getElem?_eq_none hge] at h
    cases h
theorem frozen_below {w w' : World} (h : Below w.heap.size w w') {p : Addr} (hp : p.block < w.heap.size) : w'.frozen? p = w.frozen? p := by
  have := h.block p.block hp
  unfold World.frozen?
  rw [this]

/-- What nodes weigh, one by one. -/
def wtN (n : Nd) : Nat := 1 + n.attrs.length
def wtL (l : List Nd) : Nat := (l.map wtN).sum
theorem wtL_snoc (l : List Nd) (n : Nd) : wtL (l ++ [n]) = wtL l + wtN n := by simp [wtL]

/-- The list at a place is not too great. -/
def PW (l : List Nd) (_ : Nat) : Prop := szL l ≤ 100000
theorem allP_sz : ∀ l : List Nd, szL l ≤ 100000 → AllP PW l := by
  intro l
  induction l using nd_ind with
  | h l ih =>
    intro hs
    exact .mk l (fun i n _ => hs) (fun i n hn => ih i n hn (by have := szL_kids hn; omega))
theorem wtN_le {l : List Nd} {i : Nat} {n : Nd} (h : l[i]? = some n) (hs : szL l ≤ 100000) : wtN n ≤ 10001 := by
  have h1 := szL_at h
  rw [szN_eq] at h1
  have h2 := szA_len n.attrs
  unfold wtN
  omega
theorem pos_wt {w0 : World} {S : Nat → Prop} : ∀ pre : List (Pos w0 S PW), wtL (pre.map Pos.n) ≤ 10001 * pre.length
  | [] => by simp [wtL]
  | x :: pre => by
    have h1 := pos_wt pre
    have h2 := wtN_le x.at_ x.ok
    have h3 : wtL ((x :: pre).map Pos.n) = wtN x.n + wtL (pre.map Pos.n) := by simp [wtL]
    rw [h3, List.length_cons]
    omega
theorem allN_sz : ∀ l : List Nd, 10 * (allN l).length ≤ szL l := by
  intro l
  induction l using nd_ind with
  | h l ih =>
    have key : ∀ m : List Nd, (∀ x ∈ m, 10 * (allN x.kids).length ≤ szL x.kids) → 10 * (allN m).length ≤ szL m := by
      intro m
      induction m with
      | nil => intro _; simp [allN_nil, szL]
      | cons x m ihm =>
        intro h
        have h1 := h x (by simp)
        have h2 := ihm fun y hy => h y (by simp [hy])
        have h3 := szN_eq x
        rw [allN_cons, szL_cons, List.length_cons, List.length_append]
        omega
    exact key l fun x hx => by
      obtain ⟨i, hi, he⟩ := List.mem_iff_getElem.1 hx
      exact ih i x (by rw [List.getElem?_eq_getElem hi, he])

theorem i64_id (n : Int) (h0 : -1000000000000 ≤ n) (h1 : n ≤ 1000000000000) : IntKind.i64.wrap n = n := by rw [IntKind.wrap_i64]; omega
theorem i64_sum (s na : Nat) (h1 : na ≤ 10000) (h2 : s ≤ 1000000000) : IntKind.i64.wrap ((s : Int) + IntKind.i64.wrap (1 + (na : Int))) = (s : Int) + (1 + (na : Int)) := by
  rw [i64_id (1 + (na : Int)) (by omega) (by omega), i64_id _ (by omega) (by omega)]

end Go.Proofs.Ytoidjkkjnhnbhaa

/- Part DomM. -/
namespace Go.Proofs.Ytoidjkkjnhnbhaa
set_option linter.unusedVariables false

/-- A text of characters that may be. -/
def okT (l : List UInt8) : Prop := ∃ L : List Int, (∀ r ∈ L, okN r) ∧ l = enc L
theorem okT_right (l : List UInt8) : okT (right l) := ⟨_, norm_ok (runes l) 0 (runes_ok _ l (Nat.le_refl _)), rfl⟩
theorem okT_append {a b : List UInt8} (ha : okT a) (hb : okT b) : okT (a ++ b) := by
  obtain ⟨A, hA, rfl⟩ := ha
  obtain ⟨B, hB, rfl⟩ := hb
  refine ⟨A ++ B, fun r hr => ?_, (enc_append _ _).symm⟩
  rcases List.mem_append.1 hr with h | h
  · exact hA r h
  · exact hB r h
theorem okT_is {l : List UInt8} (h : okT l) : isB l = true := by
  obtain ⟨L, hL, rfl⟩ := h
  exact isB_enc L hL
theorem okT_nil : okT [] := ⟨[], by simp, rfl⟩
theorem okT_one {c : Int} (h : okN c) {l : List UInt8} (hl : enc [c] = l) : okT l := ⟨[c], by simpa using h, hl.symm⟩
theorem okT_c : okT [99] := okT_one (c := 99) (by unfold okN okR; omega) (by decide)
theorem okT_x : okT [120] := okT_one (c := 120) (by unfold okN okR; omega) (by decide)

/-- A node that is a text or a comment, with nothing else. -/
def pn (k : Int) (t : ByteArray) : Nd := .mk k ⟨#[]⟩ [] t []
structure PN (n : Nd) : Prop where
  eq : n = pn n.kind n.text
  kind : n.kind = 2 ∨ n.kind = 3
  ok : okT n.text.data.toList
theorem PN.mk' {k : Int} {t : ByteArray} (hk : k = 2 ∨ k = 3) (ht : okT t.data.toList) : PN (pn k t) := ⟨rfl, hk, ht⟩
theorem PN.kids {n : Nd} (h : PN n) : n.kids = [] := by rw [h.eq]; rfl
theorem PN.attrs {n : Nd} (h : PN n) : n.attrs = [] := by rw [h.eq]; rfl
theorem PN.name {n : Nd} (h : PN n) : n.name = ⟨#[]⟩ := by rw [h.eq]; rfl

/-- What stands right ahead of a place is a text. -/
def behT (l : List Nd) : Nat → Bool
  | 0 => false
  | i + 1 => match l[i]? with | some n => n.kind == 2 | none => false

/-- Plain nodes that may be: no empty text, no two side by side. -/
def DomOK (l : List Nd) : Prop := ∀ (i : Nat) (n : Nd), l[i]? = some n → PN n ∧ (n.kind = 2 → n.text.data.toList ≠ [] ∧ behT l i = false)

theorem DomOK.nil : DomOK [] := fun i n h => by simp at h
theorem behT_append (l m : List Nd) (i : Nat) (h : i ≤ l.length) : behT (l ++ m) i = behT l i := by
  cases i with
  | zero => rfl
  | succ i =>
    show (match (l ++ m)[i]? with | some n => n.kind == 2 | none => false) = (match l[i]? with | some n => n.kind == 2 | none => false)
    rw [List.getElem?_append_left (show i < l.length by omega)]
theorem behT_end (l : List Nd) : behT l l.length = lastText l := by
  rcases List.eq_nil_or_concat l with rfl | ⟨m, x, hx⟩
  · rfl
  · subst hx
    rw [List.concat_eq_append, lastText_snoc, List.length_append, List.length_singleton]
    show (match (m ++ [x])[m.length]? with | some n => n.kind == 2 | none => false) = _
    rw [List.getElem?_append_right (Nat.le_refl _)]
    simp
theorem DomOK.snoc {l : List Nd} {n : Nd} (h : DomOK l) (hn : PN n) (h2 : n.kind = 2 → n.text.data.toList ≠ [] ∧ lastText l = false) : DomOK (l ++ [n]) := by
  intro i x hx
  by_cases hi : i < l.length
  · rw [List.getElem?_append_left hi] at hx
    rw [behT_append _ _ _ (by omega)]
    exact h i x hx
  · have hlt := (List.getElem?_eq_some_iff.1 hx).1
    rw [List.length_append, List.length_singleton] at hlt
    have : i = l.length := by omega
    subst this
    simp at hx
    subst hx
    rw [behT_append _ _ _ (Nat.le_refl _), behT_end]
    exact ⟨hn, h2⟩

/-- The texts that a list begins with, put together: how many, what they tell. -/
def runT (l : List Nd) : List Nd := l.takeWhile fun n => n.kind == 2
def catT (l : List Nd) : List UInt8 := l.flatMap fun n => n.text.data.toList
theorem catT_snoc (l : List Nd) (n : Nd) : catT (l ++ [n]) = catT l ++ n.text.data.toList := by simp [catT]
theorem catT_len : ∀ l : List Nd, (catT l).length + 10 * l.length ≤ szL l
  | [] => by simp [catT, szL]
  | n :: l => by
    have h1 := catT_len l
    have h2 := szN_eq n
    have h3 : (catT (n :: l)).length = n.text.size + (catT l).length := by simp [catT]
    rw [h3, szL_cons, List.length_cons]
    omega
theorem catT_ok : ∀ l : List Nd, (∀ n ∈ l, okT n.text.data.toList) → okT (catT l)
  | [], _ => okT_nil
  | n :: l, h => by
    have e : catT (n :: l) = n.text.data.toList ++ catT l := by simp [catT]
    rw [e]
    exact okT_append (h n (by simp)) (catT_ok l fun x hx => h x (by simp [hx]))

end Go.Proofs.Ytoidjkkjnhnbhaa

/- Part Is. -/
namespace Go.Proofs.Ytoidjkkjnhnbhaa
open Go.RowKit
set_option linter.unusedVariables false

set_option maxHeartbeats 400000 in
theorem written_any (s : ByteArray) (w : World) :
    Calls Try.prog 85 #[.string s] w fun e w' => e = .returned (.bool (Lib.hasPrefix s.data.toList [239, 191, 189])) ∧ w = w' := by
  go_enter Try.func85, Try.ntmps85
  go_wp2_with fail
  refine (Try.strings_HasPrefix s _ _).mono ?_
  rintro e w1 ⟨rfl, rfl⟩
  go_wp2
  go_ret
  exact ⟨rfl, rfl⟩

structure IsAt (w wr : World) (s : ByteArray) (l : List UInt8) (pos : Nat) : Prop where
  le : pos ≤ l.length
  is : isB l = isB (l.drop pos)
  it : wr.heap[w.heap.size]? = some (.stringIter s pos)
  bel : Below w.heap.size w wr

set_option maxHeartbeats 1000000 in
set_option maxRecDepth 100000 in
theorem is_any (s : ByteArray) (w : World) (hm : s.size ≤ 1000000) :
    Calls Try.prog 61 #[.string s] w fun e w' => e = .returned (.bool (isB s.data.toList)) ∧ Below w.heap.size w w' := by
  obtain ⟨l, hl⟩ : ∃ l, s.data.toList = l := ⟨_, rfl⟩
  have hsz : s.size = l.length := by rw [← hl]; simp
  rw [hl]
  have HSL := Lib.hid hl
  have HSZ := Lib.hid hsz
  clear hl hsz
  go_enter Try.func61, Try.ntmps61
  go_wp2_with fail
  go_loopw [] (fun wr => ∃ (pos : Nat), IsAt w wr s l pos) (fun wr => s.size - wr.iterPos w.heap.size)
  case atStart => exact ⟨0, by omega, by simp, World.iter_heap w s 0, (Below.refl _ w).alloc (Nat.le_refl _) _⟩
  case round =>
    obtain ⟨pos, HR⟩ := hrel
    have hit := HR.it
    have hle := HR.le
    by_cases hp : pos < l.length
    · have hps : pos < s.size := by rw [HSZ.out]; exact hp
      obtain ⟨r, d, hd⟩ : ∃ r d, dec (l.drop pos) = (r, d) := ⟨_, _, rfl⟩
      have hdec : Utf8.decode s pos = (r, d) := by rw [decode_dec, HSL.out, hd]
      have hnx : ∀ ty, (Instr.next (.pointer (some ⟨w.heap.size, 0, none⟩)) true ty).run Try.prog wr = .ok (.tuple #[.bool true, .int .i64 pos, .int .i32 r]) (wr.iterAt w.heap.size s (pos + d)) := fun ty => by
        rw [Lib.run_next_any_at wr w.heap.size s pos ty hit hps, hdec]
      have hw := dec_width (l := l.drop pos) (by rw [List.length_drop]; omega)
      have hst := isB_step (l := l.drop pos) (by rw [List.length_drop]; omega)
      have hat : okAt (l.drop pos) = !(decide (r = 0) || decide (r = 13) || (decide (r = 65533) && !Lib.hasPrefix (l.drop pos) [239, 191, 189])) := by unfold okAt; rw [hd]
      rw [hd] at hw hst
      rw [List.drop_drop] at hst
      rw [List.length_drop] at hw
      simp only at hw hst
      have HST := Lib.hid hst
      have HAT := Lib.hid hat
      have hit2 := Lib.iterAt_heap wr w.heap.size s pos (pos + d) hit
      have hbw2 := Lib.below_iterAt HR.bel (k := w.heap.size) (Nat.le_refl _) s (pos + d)
      have HIT2 := Lib.hid hit2
      clear hd hdec hst hit hit2 hat
      by_cases h0 : r = 0
      · subst h0
        have hf : isB l = false := by rw [HR.is, HST.out, HAT.out]; rfl
        have HF := Lib.hid hf
        clear hf
        go_wp2_with fail
        go_ret
        exact ⟨by rw [HF.out]; rfl, hbw2⟩
      by_cases h13 : r = 13
      · subst h13
        have hf : isB l = false := by rw [HR.is, HST.out, HAT.out]; rfl
        have HF := Lib.hid hf
        clear hf
        go_wp2_with fail
        go_ret
        exact ⟨by rw [HF.out]; rfl, hbw2⟩
      have B0 : ((r : Int) == 0) = false := by simp; omega
      have B13 : ((r : Int) == 13) = false := by simp; omega
      by_cases h6 : r = 65533
      · subst h6
        clear h0 h13
        obtain ⟨q, hq⟩ : ∃ q, Lib.hasPrefix (l.drop pos) [239, 191, 189] = q := ⟨_, rfl⟩
        have HQ := Lib.hid hq
        have hpos : (pos : Int) ≤ (s.size : Int) := by omega
        go_wp2_with fail
        refine (written_any _ _).mono ?_
        rintro e w2 ⟨rfl, rfl⟩
        rw [drop_extract, HSL.out, HQ.out]
        clear hq
        cases q with
        | true =>
          go_wp2_with fail
          go_roundw
          case rel =>
            refine ⟨pos + d, by omega, ?_, HIT2.out, hbw2⟩
            rw [HR.is, HST.out, HAT.out, HQ.out]
            simp
          case measure => simp only [World.iterPos, HIT2.out, HR.it]; have := HSZ.out; omega
        | false =>
          have hf : isB l = false := by rw [HR.is, HST.out, HAT.out, HQ.out]; simp
          have HF := Lib.hid hf
          clear hf
          go_wp2_with fail
          go_ret
          exact ⟨by rw [HF.out]; rfl, hbw2⟩
      · have B6 : ((r : Int) == 65533) = false := by simp; omega
        have H := Lib.hid (And.intro h0 (And.intro h13 h6))
        clear h0 h13 h6
        go_wp2_with fail
        go_roundw
        case rel =>
          refine ⟨pos + d, by omega, ?_, HIT2.out, hbw2⟩
          rw [HR.is, HST.out, HAT.out]
          simp [H.out.1, H.out.2.1, H.out.2.2]
        case measure => simp only [World.iterPos, HIT2.out, HR.it]; have := HSZ.out; omega
    · have hps : ¬ pos < s.size := by rw [HSZ.out]; exact hp
      have hnx : ∀ ty, (Instr.next (.pointer (some ⟨w.heap.size, 0, none⟩)) true ty).run Try.prog wr = _ := fun ty => Lib.run_next_end_at wr w.heap.size s pos ty hit hps
      have hf : isB l = true := by rw [HR.is, List.drop_of_length_le (by omega)]; rfl
      have HF := Lib.hid hf
      clear hf hit hps
      go_wp2_with fail
      go_ret
      exact ⟨by rw [HF.out]; rfl, HR.bel⟩

end Go.Proofs.Ytoidjkkjnhnbhaa

/- Part DNam. -/
namespace Go.Proofs.Ytoidjkkjnhnbhaa
open Go.RowKit
set_option linter.unusedVariables false

set_option maxHeartbeats 400000 in
theorem letterD_any (c : UInt8) (w : World) :
    Calls Try.prog 98 #[.int .u8 c.toNat] w fun e w' => e = .returned (.bool (smC c)) ∧ w = w' := by
  by_cases h1 : 97 ≤ c.toNat
  · by_cases h2 : c.toNat ≤ 122
    · have hs := Lib.hid (show smC c = true by unfold smC; simp [h1, h2])
      have hd : decide ((c.toNat : Int) ≤ 122) = true := by simp; omega
      go_enter Try.func98, Try.ntmps98
      go_wp2
      go_ret
      exact ⟨by rw [hs.out]; rfl, rfl⟩
    · have hs := Lib.hid (show smC c = false by unfold smC; simp [h1]; omega)
      have hd : decide ((c.toNat : Int) ≤ 122) = false := by simp; omega
      go_enter Try.func98, Try.ntmps98
      go_wp2
      go_ret
      exact ⟨by rw [hs.out]; rfl, rfl⟩
  · have hs := Lib.hid (show smC c = false by unfold smC; simp; omega)
    go_enter Try.func98, Try.ntmps98
    go_wp2
    go_ret
    exact ⟨by rw [hs.out]; rfl, rfl⟩

set_option maxHeartbeats 2000000 in
set_option maxRecDepth 100000 in
theorem namedD_any (s : ByteArray) (w : World) (hm : s.size ≤ 100000) :
    Calls Try.prog 83 #[.string s] w fun e w' => e = .returned (.bool (namedB s.data.toList)) ∧ w = w' := by
  obtain ⟨l, hl⟩ : ∃ l, s.data.toList = l := ⟨_, rfl⟩
  have hlz : s.size = l.length := by rw [← hl]; simp
  have hemp := empty_iff s
  rw [hl] at hemp ⊢
  by_cases h0 : s.size = 0
  · have HF := Lib.hid (show namedB l = false by rw [List.eq_nil_of_length_eq_zero (by omega : l.length = 0)]; rfl)
    have B : s.toList.isEmpty = true := by rw [hemp, List.eq_nil_of_length_eq_zero (by omega : l.length = 0)]; rfl
    clear hl hlz hemp
    go_enter Try.func83, Try.ntmps83
    go_wp2_with fail
    go_ret
    exact ⟨by rw [HF.out]; rfl, rfl⟩
  · have hp : 0 < s.size := by omega
    have B : s.toList.isEmpty = false := by
      rw [hemp, decide_eq_false]
      intro h
      rw [h] at hlz
      exact h0 hlz
    have hat := byte_at s l hl
    have hg0 := hat 0 hp
    obtain ⟨c0, hc0⟩ : ∃ c, s[0] = c := ⟨_, rfl⟩
    rw [hc0] at hg0
    have hnB : namedB l = (smC c0 && l.all namC) := by
      cases l with
      | nil => simp at hg0
      | cons a t => simp at hg0; subst hg0; rfl
    obtain ⟨q0, hq0⟩ : ∃ q, smC c0 = q := ⟨_, rfl⟩
    rw [hq0] at hnB
    have HNB := Lib.hid hnB
    have HAT := Lib.hid hat
    have HZ := Lib.hid hlz
    have HC0 := Lib.hid hc0
    have HQ0 := Lib.hid hq0
    clear hl hlz h0 hat hg0 hnB hc0 hq0 hemp
    go_enter Try.func83, Try.ntmps83
    go_wp2_with fail
    rw [HC0.out]
    refine (letterD_any c0 _).mono ?_
    rw [HQ0.out]
    rintro e w1 ⟨rfl, rfl⟩
    cases q0 with
    | false =>
      have HF := Lib.hid (show namedB l = false by rw [HNB.out]; rfl)
      go_wp2_with fail
      go_ret
      exact ⟨by rw [HF.out]; rfl, rfl⟩
    | true =>
    go_wp2_with fail
    go_loop [15] (fun y => ∃ k : Nat, y = .int .i64 k ∧ k ≤ s.size ∧ Hid ((l.take k).all namC = true)) (fun y => s.size - (intOf y).toNat)
    case atStart => exact ⟨0, rfl, by omega, Lib.hid rfl⟩
    case round =>
      obtain ⟨k, rfl, hk, HA⟩ := hrel
      by_cases hlt : k < s.size
      · have hg := HAT.out k hlt
        obtain ⟨c, hc⟩ : ∃ c, s[k] = c := ⟨_, rfl⟩
        rw [hc] at hg
        have htk := take_snoc1 hg
        have HNO := Lib.hid (fun h => all_false (p := namC) hg h)
        have HC := Lib.hid hc
        have HST := Lib.hid (show namC c = true → (l.take (k + 1)).all namC = true by intro h; rw [htk, all_snoc, HA.out, h]; rfl)
        clear hg htk hc
        by_cases hs : smC c = true
        · have HS := Lib.hid hs
          have HN := Lib.hid (HST.out (by unfold namC; rw [hs]; rfl))
          clear hs
          go_wp2_with fail
          rw [HC.out]
          refine (letterD_any c _).mono ?_
          rw [HS.out]
          rintro e w1 ⟨rfl, rfl⟩
          go_wp2_with fail
          go_round
          case rel => exact ⟨k + 1, by go_num, by omega, HN⟩
          case measure => simp [intOf]; omega
        · have hs' : smC c = false := by simpa using hs
          have HS := Lib.hid hs'
          by_cases hn : namC c = true
          · have HN := Lib.hid (HST.out hn)
            by_cases h45 : c.toNat = 45
            · have D1 : decide ((c.toNat : Int) < 48) = true := by simp; omega
              have D3 : ((c.toNat : Int) != 45) = false := by rw [h45]; rfl
              clear hs hs' hn h45
              go_wp2_with fail
              rw [HC.out]
              refine (letterD_any c _).mono ?_
              rw [HS.out]
              rintro e w1 ⟨rfl, rfl⟩
              go_wp2_with fail
              go_round
              case rel => exact ⟨k + 1, by go_num, by omega, HN⟩
              case measure => simp [intOf]; omega
            · have hd : 48 ≤ c.toNat ∧ c.toNat ≤ 57 := by
                unfold namC at hn
                rw [hs'] at hn
                simp at hn
                omega
              have D1 : decide ((c.toNat : Int) < 48) = false := by simp; omega
              have D2 : decide (57 < (c.toNat : Int)) = false := by simp; omega
              clear hs hs' hn h45 hd
              go_wp2_with fail
              rw [HC.out]
              refine (letterD_any c _).mono ?_
              rw [HS.out]
              rintro e w1 ⟨rfl, rfl⟩
              go_wp2_with fail
              go_round
              case rel => exact ⟨k + 1, by go_num, by omega, HN⟩
              case measure => simp [intOf]; omega
          · have hn' : namC c = false := by simpa using hn
            have HF := Lib.hid (show namedB l = false by rw [HNB.out, HNO.out hn']; simp)
            have hb : ¬ c.toNat = 45 ∧ (c.toNat < 48 ∨ 57 < c.toNat) := by
              unfold namC at hn'
              rw [hs'] at hn'
              simp at hn'
              omega
            have D3 : ((c.toNat : Int) != 45) = true := by simp; omega
            obtain ⟨hb1, hb2⟩ := hb
            rcases (show c.toNat < 48 ∨ (48 ≤ c.toNat ∧ 57 < c.toNat) by omega) with hb | ⟨hb, hb'⟩
            case' inl => have D1 : decide ((c.toNat : Int) < 48) = true := by simp; omega
            case' inr =>
              have D1 : decide ((c.toNat : Int) < 48) = false := by simp; omega
              have D2 : decide (57 < (c.toNat : Int)) = true := by simp; omega
            all_goals
              clear hs hs' hn hn' hb1 hb2
              go_wp2_with fail
              rw [HC.out]
              refine (letterD_any c _).mono ?_
              rw [HS.out]
              rintro e w1 ⟨rfl, rfl⟩
              go_wp2_with fail
              go_ret
              exact ⟨by rw [HF.out]; rfl, rfl⟩
      · have HF := Lib.hid (show namedB l = true by
          rw [HNB.out]
          have := HA.out
          rw [List.take_of_length_le (by have := HZ.out; omega)] at this
          rw [this]; rfl)
        go_wp2_with fail
        go_ret
        exact ⟨by rw [HF.out]; rfl, rfl⟩

/-- What an attribute's name may not have. -/
def barZ (r : Int) : Bool := (r == 9) || (r == 10) || (r == 12) || (r == 32) || (r == 47) || (r == 62) || (r == 61) || (decide (65 ≤ r) && decide (r ≤ 90))
theorem barZ_byte (c : UInt8) : barZ (c.toNat : Int) = !attC c := by
  unfold barZ attC
  have e : ∀ n : Nat, ((c.toNat : Int) == (n : Int)) = decide (c.toNat = n) := fun n => by rw [Bool.eq_iff_iff, beq_iff_eq, decide_eq_true_eq]; omega
  have h1 : decide ((65 : Int) ≤ c.toNat) = decide (65 ≤ c.toNat) := by rw [decide_eq_decide]; omega
  have h2 : decide ((c.toNat : Int) ≤ 90) = decide (c.toNat ≤ 90) := by rw [decide_eq_decide]; omega
  have e9 := e 9; have e10 := e 10; have e12 := e 12; have e32 := e 32; have e47 := e 47; have e62 := e 62; have e61 := e 61
  simp only [Int.cast_ofNat_Int] at e9 e10 e12 e32 e47 e62 e61
  rw [h1, h2, e9, e10, e12, e32, e47, e62, e61, Bool.not_not]
  generalize decide (c.toNat = 9) = a
  generalize decide (c.toNat = 10) = b
  generalize decide (c.toNat = 12) = d
  generalize decide (c.toNat = 32) = f
  generalize decide (c.toNat = 47) = g
  generalize decide (c.toNat = 62) = i
  generalize decide (c.toNat = 61) = j
  generalize (decide (65 ≤ c.toNat) && decide (c.toNat ≤ 90)) = k
  revert a b d f g i j k
  decide
theorem barZ_hi {r : Int} (h : 128 ≤ r) : barZ r = false := by
  unfold barZ
  simp
  omega
theorem attC_hi {c : UInt8} (h : 128 ≤ c.toNat) : attC c = true := by
  have := barZ_byte c
  rw [barZ_hi (by omega)] at this
  simpa using this.symm

set_option maxHeartbeats 1000000 in
theorem barredD_any (r : Int) (w : World) : Calls Try.prog 100 #[.int .i32 r] w fun e w' => e = .returned (.bool (barZ r)) ∧ w = w' := by
  obtain ⟨q1, e1⟩ : ∃ q, (r == 9) = q := ⟨_, rfl⟩
  obtain ⟨q2, e2⟩ : ∃ q, (r == 10) = q := ⟨_, rfl⟩
  obtain ⟨q3, e3⟩ : ∃ q, (r == 12) = q := ⟨_, rfl⟩
  obtain ⟨q4, e4⟩ : ∃ q, (r == 32) = q := ⟨_, rfl⟩
  obtain ⟨q5, e5⟩ : ∃ q, (r == 47) = q := ⟨_, rfl⟩
  obtain ⟨q6, e6⟩ : ∃ q, (r == 62) = q := ⟨_, rfl⟩
  obtain ⟨q7, e7⟩ : ∃ q, (r == 61) = q := ⟨_, rfl⟩
  obtain ⟨q8, e8⟩ : ∃ q, decide (65 ≤ r) = q := ⟨_, rfl⟩
  obtain ⟨q9, e9⟩ : ∃ q, decide (r ≤ 90) = q := ⟨_, rfl⟩
  have HF := Lib.hid (show barZ r = (q1 || q2 || q3 || q4 || q5 || q6 || q7 || (q8 && q9)) by unfold barZ; rw [e1, e2, e3, e4, e5, e6, e7, e8, e9])
  cases q1
  case' false => cases q2
  case' false.false => cases q3
  case' false.false.false => cases q4
  case' false.false.false.false => cases q5
  case' false.false.false.false.false => cases q6
  case' false.false.false.false.false.false => cases q7
  case' false.false.false.false.false.false.false => cases q8
  case' false.false.false.false.false.false.false.true => cases q9
  all_goals
    go_enter Try.func100, Try.ntmps100
    go_wp2
    go_ret
    exact ⟨by rw [HF.out]; first | rfl | (simp only [Bool.true_or, Bool.false_or]; rfl), rfl⟩

structure BarAt (w : World) (s : ByteArray) (l : List UInt8) (pos : Nat) (wr : World) : Prop where
  le : pos ≤ l.length
  it : wr.heap[w.heap.size]? = some (.stringIter s pos)
  bel : Below w.heap.size w wr
  ok : ∀ j (h : j < l.length), j < pos → attC l[j] = true
theorem all_at {p : UInt8 → Bool} {l : List UInt8} (h : ∀ j (h : j < l.length), p l[j] = true) : l.all p = true := by
  rw [List.all_eq_true]
  intro x hx
  obtain ⟨j, hj, rfl⟩ := List.mem_iff_getElem.1 hx
  exact h j hj

set_option maxHeartbeats 2000000 in
set_option maxRecDepth 100000 in
theorem indexBar_any (s : ByteArray) (w : World) (hm : s.size ≤ 1000000) :
    Calls Try.prog 111 #[.string s, .func (.func 100) #[] #[], .bool true] w fun e w' => ∃ x : Int, e = .returned (.int .i64 x) ∧ decide (0 ≤ x) = !(s.data.toList.all attC) ∧ Below w.heap.size w w' := by
  obtain ⟨l, hl⟩ : ∃ l, s.data.toList = l := ⟨_, rfl⟩
  have hsz : s.size = l.length := by rw [← hl]; simp
  have HSL := Lib.hid hl
  have HSZ := Lib.hid hsz
  rw [hl]
  clear hl hsz
  go_enter Try.func111, Try.ntmps111
  go_wp2_with fail
  go_loopw [] (fun wr => ∃ pos : Nat, BarAt w s l pos wr) (fun wr => s.size - wr.iterPos w.heap.size)
  case atStart => exact ⟨0, by omega, World.iter_heap w s 0, (Below.refl _ w).alloc (Nat.le_refl _) _, fun j _ h => by omega⟩
  case round =>
    obtain ⟨pos, HR⟩ := hrel
    have hle := HR.le
    have hit := HR.it
    have hbel := HR.bel
    by_cases hp : pos < l.length
    · have hps : pos < s.size := by rw [HSZ.out]; exact hp
      obtain ⟨r, d, hd⟩ : ∃ r d, dec (l.drop pos) = (r, d) := ⟨_, _, rfl⟩
      have hdec : Utf8.decode s pos = (r, d) := by rw [decode_dec, HSL.out, hd]
      have hnx : ∀ ty, (Instr.next (.pointer (some ⟨w.heap.size, 0, none⟩)) true ty).run Try.prog wr = .ok (.tuple #[.bool true, .int .i64 pos, .int .i32 r]) (wr.iterAt w.heap.size s (pos + d)) := fun ty => by
        rw [Lib.run_next_any_at wr w.heap.size s pos ty hit hps, hdec]
      obtain ⟨hd1, hd2, hok, hch⟩ := char_at hp hd
      have HCH := Lib.hid hch
      have HIT2 := Lib.hid (Lib.iterAt_heap wr w.heap.size s pos (pos + d) hit)
      have hbw2 := Lib.below_iterAt hbel (k := w.heap.size) (Nat.le_refl _) s (pos + d)
      have HIT := Lib.hid hit
      have HC := Lib.hid (barredD_any r (wr.iterAt w.heap.size s (pos + d)))
      obtain ⟨qb, hqb⟩ : ∃ qb, barZ r = qb := ⟨_, rfl⟩
      rw [hqb] at HC
      have HQ := Lib.hid hqb
      clear hd hdec hch hit hqb hok
      go_wp2_with fail
      refine HC.out.mono ?_
      rintro e w2 ⟨rfl, rfl⟩
      cases qb with
      | false =>
        go_wp2_with fail
        go_roundw
        case rel =>
          refine ⟨pos + d, hd2, HIT2.out, hbw2, fun j hj hjp => ?_⟩
          by_cases h : j < pos
          · exact HR.ok j hj h
          · rcases HCH.out with h1 | h1
            · obtain rfl : j = pos := by omega
              have := barZ_byte l[j]
              rw [h1.2.2, HQ.out] at this
              simpa using this.symm
            · exact attC_hi (h1.2 j hj (by omega) hjp)
        case measure => simp only [World.iterPos, HIT2.out, HIT.out]; have := HSZ.out; omega
      | true =>
        have HX := Lib.hid (show l.all attC = false by
          rcases HCH.out with h1 | h1
          · have := barZ_byte l[pos]
            rw [h1.2.2, HQ.out] at this
            exact all_false (List.getElem?_eq_getElem hp) (by simpa using this.symm)
          · have := barZ_hi (r := r) (by omega)
            rw [HQ.out] at this
            cases this)
        go_wp2_with fail
        go_ret
        exact ⟨_, rfl, by rw [HX.out]; simp, hbw2⟩
    · have hps : ¬ pos < s.size := by rw [HSZ.out]; exact hp
      have hnx : ∀ ty, (Instr.next (.pointer (some ⟨w.heap.size, 0, none⟩)) true ty).run Try.prog wr = _ := fun ty => Lib.run_next_end_at wr w.heap.size s pos ty hit hps
      have HX := Lib.hid (show l.all attC = true from all_at fun j h => HR.ok j h (by omega))
      clear hps hit
      go_wp2_with fail
      go_ret
      exact ⟨_, rfl, by rw [HX.out]; rfl, hbel⟩

set_option maxHeartbeats 1000000 in
theorem attrD_any (s : ByteArray) (w : World) (hm : s.size ≤ 1000000) : Calls Try.prog 84 #[.string s] w fun e w' => e = .returned (.bool (attrB s.data.toList)) ∧ Below w.heap.size w w' := by
  have hemp := empty_iff s
  have hc : ∀ w, Calls Try.prog 99 #[.string s, .func (.func 100) #[] #[]] w fun e w' => e = .returned (.bool (!(s.data.toList.all attC))) ∧ Below w.heap.size w w' := by
    intro w
    have H := Lib.hid (indexBar_any s w hm)
    obtain ⟨q, hq⟩ : ∃ q, s.data.toList.all attC = q := ⟨_, rfl⟩
    rw [hq] at H ⊢
    clear hq hemp
    go_enter Try.func99, Try.ntmps99
    go_wp2_with (go_at_call 105; go_enter Try.func105, Try.ntmps105)
    go_wp2_with fail
    refine H.out.mono ?_
    rintro e w2 ⟨x, rfl, hx, hb⟩
    go_wp2_with fail
    go_ret
    exact ⟨by first | rfl | rw [← hx], hb⟩
  have HC := Lib.hid hc
  have hi := fun w => is_any s w hm
  have HE := Lib.hid (show attrB s.data.toList = (isB s.data.toList && s.data.toList.all attC && !s.data.toList.isEmpty) from rfl)
  have hie : s.data.toList.isEmpty = decide (s.data.toList = []) := by cases s.data.toList with
    | nil => rfl
    | cons a b => simp
  rw [hie] at HE
  rw [HE.out]
  obtain ⟨q1, h1⟩ : ∃ q, decide (s.data.toList = []) = q := ⟨_, rfl⟩
  obtain ⟨q2, h2⟩ : ∃ q, s.data.toList.all attC = q := ⟨_, rfl⟩
  obtain ⟨q3, h3⟩ : ∃ q, isB s.data.toList = q := ⟨_, rfl⟩
  rw [h1] at hemp
  rw [h2] at HC
  simp only [h3] at hi
  rw [h1, h2, h3]
  have HI := Lib.hid hi
  clear hc hi HE h1 h2 h3 hie
  cases q1 with
  | true =>
    go_enter Try.func84, Try.ntmps84
    go_wp2_with fail
    go_ret
    exact ⟨by simp, Below.refl _ _⟩
  | false =>
    cases q2 with
    | false =>
      go_enter Try.func84, Try.ntmps84
      go_wp2_with fail
      refine (HC.out _).mono ?_
      rintro e w1 ⟨rfl, hb1⟩
      go_wp2_with fail
      go_ret
      exact ⟨by simp, hb1⟩
    | true =>
      go_enter Try.func84, Try.ntmps84
      go_wp2_with fail
      refine (HC.out _).mono ?_
      rintro e w1 ⟨rfl, hb1⟩
      go_wp2_with fail
      refine (HI.out _).mono ?_
      rintro e w2 ⟨rfl, hb2⟩
      go_wp2_with fail
      go_ret
      exact ⟨by simp, below_after hb1 hb2⟩

end Go.Proofs.Ytoidjkkjnhnbhaa

/- Part TkK. -/
namespace Go.Proofs.Ytoidjkkjnhnbhaa
open Go.RowKit Go.Maps
set_option linter.unusedVariables false

theorem zeroUnitK (w : World) : (zeroValue 90).run Try.prog w = .ok (.agg #[]) w := by kernel_rfl

/-- What a datum says of texts. -/
def SView (D : DataW Unit) (f : List UInt8 → Bool) : Prop := IsMap D ∧ ∀ l, Maps.has D (.string l) = f l
theorem SView.empty : SView (.map []) (fun _ => false) := ⟨isMap_empty, fun l => rfl⟩
theorem SView.put {D : DataW Unit} {f : List UInt8 → Bool} (h : SView D f) (k : List UInt8) : SView (D.put (.string k) (.agg [])) (fun l => decide (l = k) || f l) := by
  refine ⟨h.1.put _ _, fun l => ?_⟩
  by_cases e : l = k
  · subst e
    rw [has_put_same h.1 (show WideAt.IsKeyLit (.string l) from trivial)]
    simp
  · have hne : (Lit.string l) ≠ .string k := by intro h; injection h; exact e ‹_›
    rw [has_put_other hne, h.2 l]
    show f l = (decide (l = k) || f l)
    rw [decide_eq_false e, Bool.false_or]

/-- Block b is a set of at most n texts, of just those that f tells. -/
def Seen (w : World) (b n : Nat) (f : List UInt8 → Bool) : Prop := ∃ D : DataW Unit, w.ownsMap Try.prog 9 unitElem b n D ∧ SView D f

theorem Seen.lt {w : World} {b n : Nat} {f : List UInt8 → Bool} (h : Seen w b n f) : b < w.heap.size := by
  obtain ⟨D, h, _⟩ := h
  exact h.lt
theorem Seen.kept {w w' : World} {b n : Nat} {f : List UInt8 → Bool} (h : Seen w b n f) (hb : w'.heap[b]? = w.heap[b]?) : Seen w' b n f := by
  obtain ⟨D, ⟨es, clock, hh, F, hs, hD⟩, hv⟩ := h
  exact ⟨D, ⟨es, clock, hb.trans hh, F, hs, hD⟩, hv⟩
theorem Seen.below {w w' : World} {b n : Nat} {f : List UInt8 → Bool} (h : Seen w b n f) (hb : Below w.heap.size w w') : Seen w' b n f := h.kept (hb.block b h.lt)
theorem Seen.made (w : World) : Seen (w.alloc (.map #[] 0)) w.heap.size 0 (fun _ => false) := ⟨_, World.ownsMap_made _ _ _ _, SView.empty⟩
theorem Seen.congr {w : World} {b n : Nat} {f g : List UInt8 → Bool} (h : Seen w b n f) (e : ∀ l, f l = g l) : Seen w b n g := by
  have : f = g := funext e
  subst this
  exact h

set_option maxRecDepth 100000 in
/-- '_, is := seen[s]'. -/
theorem Seen.look {w : World} {b n : Nat} {f : List UInt8 → Bool} (h : Seen w b n f) (k : ByteArray) (hk : k.size ≤ maxLen) :
    (Instr.lookup 89 (.map (some b)) (.string k) true).run Try.prog w = .ok (.tuple #[.agg #[], .bool (f k.data.toList)]) w := by
  obtain ⟨D, hown, hv⟩ := h
  obtain ⟨v, ps, hrun, hv2⟩ := hown.look_ok strKeyed Try.underlying89 (zeroUnitK w) unitElem_mk (Go.WideMaps.keyOf_string_mk Try.underlying9 hk)
  obtain ⟨rfl, _⟩ := unitElem_inv hv2
  rw [hrun, hv.2]

set_option maxRecDepth 100000 in
/-- 'seen[s] = struct{}{}'. -/
theorem Seen.store {w : World} {b n : Nat} {f : List UInt8 → Bool} (h : Seen w b n f) (hn : n ≤ 2000000) (k : ByteArray) (hk : k.size ≤ maxLen) :
    ∃ w', (Instr.mapUpdate 89 (.map (some b)) (.string k) (.agg #[])).run Try.prog w = .ok () w' ∧ Seen w' b (n + 1) (fun l => decide (l = k.data.toList) || f l) ∧ w.grownBy w' (some b) := by
  obtain ⟨D, hown, hv⟩ := h
  obtain ⟨w', hrun, r1, r2⟩ := hown.update strKeyed Try.underlying89 (by unfold maxLen; omega) (Go.WideMaps.keyOf_string_mk Try.underlying9 hk) unitElem_mk
  exact ⟨w', hrun, ⟨_, r1, hv.put _⟩, r2⟩

end Go.Proofs.Ytoidjkkjnhnbhaa

/- Part DTag. -/
namespace Go.Proofs.Ytoidjkkjnhnbhaa
open Go.RowKit
set_option linter.unusedVariables false

/-- Has a node the fields of its kind? -/
def shB (k : Int) (nm : ByteArray) (n1 : Nat) (t : ByteArray) (n2 : Nat) : Bool :=
  if k = 1 then t.toList.isEmpty else if k = 2 ∨ k = 3 then nm.toList.isEmpty && (n1 == 0) && (n2 == 0) else false

set_option maxHeartbeats 1000000 in
theorem shapedD_any (k : Int) (nm t : ByteArray) (A1 A2 : Option Addr) (n1 n2 c1 c2 : Nat) (w : World) :
    Calls Try.prog 59 #[.agg #[.int .i64 k, .string nm, .slice A1 n1 c1, .string t, .slice A2 n2 c2]] w fun e w' => e = .returned (.bool (shB k nm n1 t n2)) ∧ Below w.heap.size w w' := by
  by_cases k1 : k = 1
  · have HX := Lib.hid (show shB k nm n1 t n2 = t.toList.isEmpty by unfold shB; rw [if_pos k1])
    rw [HX.out]
    subst k1
    obtain ⟨q, hq⟩ : ∃ q, t.toList.isEmpty = q := ⟨_, rfl⟩
    rw [hq]
    clear HX
    go_enter Try.func59, Try.ntmps59
    go_wp2_with fail
    go_ret
    exact ⟨rfl, (Below.refl _ w).alloc (Nat.le_refl _) _⟩
  · have B1 : (k == 1) = false := by simp [k1]
    by_cases k23 : k = 2 ∨ k = 3
    · have HX := Lib.hid (show shB k nm n1 t n2 = (nm.toList.isEmpty && (n1 == 0) && (n2 == 0)) by unfold shB; rw [if_neg k1, if_pos k23])
      rw [HX.out]
      clear HX k1
      obtain ⟨q, hq⟩ : ∃ q, nm.toList.isEmpty = q := ⟨_, rfl⟩
      rw [hq]
      have hk2 : (k == 2) = true ∨ ((k == 2) = false ∧ (k == 3) = true) := by
        rcases k23 with rfl | rfl
        · exact .inl rfl
        · exact .inr ⟨rfl, rfl⟩
      clear k23
      cases q
      case' true =>
        rcases Nat.eq_zero_or_pos n1 with rfl | h1
        case' true.inl => rcases Nat.eq_zero_or_pos n2 with rfl | h2
        case' true.inl.inr =>
          have Z2 : (n2 == 0) = false := by rw [beq_eq_false_iff_ne]; omega
          have Z3 : ((n2 : Int) == 0) = false := by rw [beq_eq_false_iff_ne]; omega
          clear h2
        case' true.inr => have Z1 : (n1 == 0) = false := by rw [beq_eq_false_iff_ne]; omega
      all_goals
        rcases hk2 with hk2 | ⟨hk2, hk3⟩
        all_goals
          go_enter Try.func59, Try.ntmps59
          go_wp2_with fail
          go_ret
          exact ⟨by first | rfl | simp [*], (Below.refl _ w).alloc (Nat.le_refl _) _⟩
    · have B2 : (k == 2) = false := by simp; omega
      have B3 : (k == 3) = false := by simp; omega
      have HX := Lib.hid (show shB k nm n1 t n2 = false by unfold shB; rw [if_neg k1, if_neg k23])
      rw [HX.out]
      clear HX k1 k23
      go_enter Try.func59, Try.ntmps59
      go_wp2_with fail
      go_ret
      exact ⟨rfl, (Below.refl _ w).alloc (Nat.le_refl _) _⟩

/-- The first error of an element's name and attributes. -/
def tagE (n : Nd) : Int := if namedB n.name.data.toList = true then (if nameE [] n.attrs = 0 then valE n.attrs else nameE [] n.attrs) else 4
theorem make_hintN (n : Int) (w : World) : (Instr.makeMap 89 (some (.int .i64 n))).run Try.prog w = .ok (.map (some w.heap.size)) (w.alloc (.map #[] 0)) := by kernel_rfl

/-- The names met among attributes. -/
def metN (l : List (ByteArray × ByteArray)) (x : List UInt8) : Bool := l.any fun a => decide (x = a.1.data.toList)
theorem metN_snoc (l : List (ByteArray × ByteArray)) (a : ByteArray × ByteArray) (x : List UInt8) : metN (l ++ [a]) x = (decide (x = a.1.data.toList) || metN l x) := by
  unfold metN
  rw [List.any_append, Bool.or_comm]
  simp
theorem list_inj {a b : ByteArray} : a.data.toList = b.data.toList ↔ a = b := by
  constructor
  · intro h
    cases a
    cases b
    simp at h
    rw [h]
  · intro h; rw [h]
theorem metN_any (l : List (ByteArray × ByteArray)) (x : ByteArray) : metN l x.data.toList = (l.map (·.1)).any (fun y => decide (y = x)) := by
  unfold metN
  rw [List.any_map]
  congr 1
  funext a
  show decide _ = decide (a.1 = x)
  rw [decide_eq_decide, list_inj]
  exact ⟨Eq.symm, Eq.symm⟩

structure TgAt (w1 wr : World) (mb : Nat) (l : List (ByteArray × ByteArray)) (k : Nat) : Prop where
  le : k ≤ l.length
  is : nameE [] (l.take k) = 0
  seen : Seen wr mb k (metN (l.take k))
  bel : Below w1.heap.size w1 wr
def TgRel (w1 : World) (mb : Nat) (l : List (ByteArray × ByteArray)) (y : Value) (wr : World) : Prop := ∃ k : Nat, y = .int .i64 k ∧ TgAt w1 wr mb l k

set_option maxHeartbeats 4000000 in
set_option maxRecDepth 100000 in
theorem taggedD_any (S : Nat → Prop) (n : Nd) (va vk : Value) (w : World) (hat : AttrsAt S w n.attrs va) (hS : ∀ b, S b → b < w.heap.size) (hsz : szN n ≤ 100000) :
    Calls Try.prog 60 #[.agg #[.int .i64 n.kind, .string n.name, va, .string n.text, vk]] w fun e w' => e = .returned (.int .i64 (tagE n)) ∧ Below w.heap.size w w' := by
  have hne := szN_eq n
  have hln := szA_len n.attrs
  have hnz : n.name.size ≤ 100000 := by omega
  have hal : n.attrs.length ≤ 10000 := by omega
  have hat0 := hat
  obtain ⟨A, c, rfl, hc, _⟩ := hat
  have HAT := Lib.hid hat0
  clear hat0
  obtain ⟨qn, hqn⟩ : ∃ q, namedB n.name.data.toList = q := ⟨_, rfl⟩
  have hNm := fun w => namedD_any n.name w hnz
  rw [hqn] at hNm
  have HNM := Lib.hid hNm
  have HEE := Lib.hid (show tagE n = if qn = true then (if nameE [] n.attrs = 0 then valE n.attrs else nameE [] n.attrs) else 4 by unfold tagE; rw [hqn])
  have HNE := Lib.hid hne
  have hmk := fun W => make_hintN n.attrs.length W
  clear hqn hNm hne
  go_enter Try.func60, Try.ntmps60
  go_wp2_with fail
  refine (HNM.out _).mono ?_
  rintro e w0 ⟨rfl, rfl⟩
  cases qn with
  | false =>
    go_wp2_with fail
    go_ret
    exact ⟨by rw [HEE.out]; rfl, below_new _ _⟩
  | true =>
    go_wp2_with fail
    obtain ⟨w1, hw1⟩ : ∃ w1, w.alloc (.cells #[.int .i64 n.kind, .string n.name, .slice A n.attrs.length c, .string n.text, vk] 32) = w1 := ⟨_, rfl⟩
    have hz1 : w1.heap.size = w.heap.size + 1 := by rw [← hw1]; simp
    have hb1 : Below w.heap.size w w1 := by rw [← hw1]; exact below_new _ _
    have d2 : w1.cell? ⟨w.heap.size, 2, none⟩ = some (.slice A n.attrs.length c) := by rw [← hw1]; simp
    rw [hw1]
    have hat1 : AttrsAt (fun b => b < w.heap.size) w1 n.attrs (.slice A n.attrs.length c) := (HAT.out.mono hS).keep (Kept.belowB hb1 fun b h => h)
    have hse : Seen (w1.alloc (.map #[] 0)) (w.heap.size + 1) 0 (metN (n.attrs.take 0)) := by have := Seen.made w1; rw [hz1] at this; exact this
    have HSE := Lib.hid hse
    have HA1 := Lib.hid hat1
    have HD2 := Lib.hid d2
    have HB1 := Lib.hid hb1
    have HZ1 := Lib.hid hz1
    clear hw1 hat1 d2 hb1 hz1 hse
    go_loopw [21] (fun y wr => TgRel w1 (w.heap.size + 1) n.attrs y wr) (fun y _ => n.attrs.length - (intOf y).toNat)
    case atStart => exact ⟨0, rfl, by omega, rfl, HSE.out, below_new _ _⟩
    case round =>
      obtain ⟨k, rfl, HR⟩ := hrel
      have hk := HR.le
      have hbel := HR.bel
      have HSN := Lib.hid HR.seen
      have HIS := Lib.hid HR.is
      clear HR
      have hB1 := HZ1.out
      by_cases hlt : k < n.attrs.length
      · obtain ⟨b, o, c', hv, _, hSb, hcell⟩ := HA1.out.at_ (by omega)
        injection hv with hA _ hcc
        subst hA
        subst hcc
        obtain ⟨x, hx⟩ : ∃ x, n.attrs[k]? = some x := ⟨_, List.getElem?_eq_getElem hlt⟩
        have hbw : b < w1.heap.size := by omega
        have p0 : wr.cell? ⟨b, o + k * 2, none⟩ = some (.string x.1) := (hbel.cell (p := ⟨b, o + k * 2, none⟩) hbw).trans (hcell k x hx).1
        have p1 : wr.cell? ⟨b, o + k * 2 + 1, none⟩ = some (.string x.2) := (hbel.cell (p := ⟨b, o + k * 2 + 1, none⟩) hbw).trans (hcell k x hx).2
        have hxs := szA_at hx
        have hxn : x.1.size ≤ 100000 := by have := HNE.out; omega
        have hns := nameE_at hx [] HIS.out
        have hdr : n.attrs.drop k = x :: n.attrs.drop (k + 1) := by
          have := List.drop_eq_getElem_cons (l := n.attrs) (i := k) hlt
          rw [List.getElem?_eq_getElem hlt] at hx
          injection hx with hx
          rw [hx] at this
          exact this
        have htk : n.attrs.take (k + 1) = n.attrs.take k ++ [x] := by rw [List.take_add_one, hx]; rfl
        rw [hdr, nameE_one, nameE_one, List.nil_append] at hns
        obtain ⟨q, hq⟩ : ∃ q, attrB x.1.data.toList = q := ⟨_, rfl⟩
        have hai := fun w => attrD_any x.1 w (by omega)
        obtain ⟨q2, hq2⟩ : ∃ q, metN (n.attrs.take k) x.1.data.toList = q := ⟨_, rfl⟩
        rw [← metN_any, hq2] at hns
        simp only [hq] at hai
        rw [hq] at hns
        have HAI := Lib.hid hai
        have HNS := Lib.hid hns
        have HTK := Lib.hid htk
        have HQ2 := Lib.hid hq2
        have hin1 : (k : Int) < (n.attrs.length : Int) := by omega
        clear hcell hx hai hns hdr hq hq2 htk
        go_wp2_with fail
        refine (HAI.out _).mono ?_
        rintro e w4 ⟨rfl, hb4⟩
        have hB4 : Below wr.heap.size wr w4 := below_after (below_new wr _) hb4
        have d0 : w4.cell? ⟨wr.heap.size, 0, none⟩ = some (.string x.1) := (hb4.cell (p := ⟨wr.heap.size, 0, none⟩) (by simp)).trans (World.cell?_alloc_mark _ _ _ _ _)
        have hbel4 := below_after hbel hB4
        cases q with
        | false =>
          have hB2 := below_after HB1.out hbel4
          go_wp2_with fail
          go_ret
          refine ⟨?_, hB2⟩
          rw [HEE.out]
          have h4 : nameE [] n.attrs = 4 := HNS.out.1
          rw [h4]
          rfl
        | true =>
          have hs4 : Seen w4 (w.heap.size + 1) k (metN (n.attrs.take k)) := HSN.out.below hB4
          have hlk := hs4.look x.1 (by unfold maxLen; omega)
          rw [HQ2.out] at hlk
          cases q2 with
          | true =>
            have hB2 := below_after HB1.out (hbel4.alloc hbel4.size (.cells #[] 90))
            clear hs4
            go_wp2_with fail
            go_ret
            refine ⟨?_, hB2⟩
            rw [HEE.out]
            have h5 : nameE [] n.attrs = 5 := HNS.out.1
            rw [h5]
            rfl
          | false =>
            have hlt4 : wr.heap.size < w4.heap.size := by have := hb4.size; simp at this; omega
            have d0' : (w4.alloc (.cells #[] 90)).cell? ⟨wr.heap.size, 0, none⟩ = some (.string x.1) := (World.cell?_alloc_past _ _ _ hlt4).trans d0
            obtain ⟨w5, hput, hs5, hg5⟩ := (hs4.below (below_new w4 (.cells #[] 90))).store (by omega) x.1 (by unfold maxLen; omega)
            have hbel5 : Below w1.heap.size w1 w5 := (hbel4.alloc hbel4.size (.cells #[] 90)).grown hg5 (by have := hbel4.size; simp; omega) (fun g hg => by injection hg with hg; omega)
            have hs6 : Seen w5 (w.heap.size + 1) (k + 1) (metN (n.attrs.take (k + 1))) := hs5.congr fun l => by rw [HTK.out, metN_snoc]
            have HN := Lib.hid (show nameE [] (n.attrs.take (k + 1)) = 0 from HNS.out.2)
            have HS6 := Lib.hid hs6
            have HB5 := Lib.hid hbel5
            clear hs4 hs5 hs6 hg5 hbel5 hB4 hb4 hbel4
            go_wp2_with fail
            go_roundw
            case rel => exact ⟨k + 1, by go_num, by omega, HN.out, HS6.out, HB5.out⟩
            case measure => simp [intOf]; omega
      · have hall : nameE [] n.attrs = 0 := by
          have := HIS.out
          rwa [List.take_of_length_le (by omega)] at this
        have HAL := Lib.hid (show tagE n = valE n.attrs by rw [HEE.out, hall]; rfl)
        have g2 : wr.cell? ⟨w.heap.size, 2, none⟩ = some (.slice A n.attrs.length c) := (hbel.cell (p := ⟨w.heap.size, 2, none⟩) (by show w.heap.size < _; omega)).trans HD2.out
        clear hall
        go_wp2_with fail
        obtain ⟨wo, rfl⟩ : ∃ wo : World, wo = wr := ⟨_, rfl⟩
        go_loopw [45] (fun y wr => ElValRel w1 n.attrs y wr) (fun y _ => n.attrs.length - (intOf y).toNat)
        case atStart => exact ⟨0, rfl, by omega, by simp, hbel⟩
        case round =>
          obtain ⟨j, rfl, HJ⟩ := hrel
          have hj := HJ.le
          have hbj := HJ.bel
          have HJS := Lib.hid HJ.is
          clear HJ g2
          by_cases hjl : j < n.attrs.length
          · obtain ⟨b, o, c', hv, _, hSb, hcell⟩ := HA1.out.at_ (by omega)
            injection hv with hA _ hcc
            subst hA
            subst hcc
            obtain ⟨z, hz⟩ : ∃ z, n.attrs[j]? = some z := ⟨_, List.getElem?_eq_getElem hjl⟩
            have hbw : b < w1.heap.size := by omega
            have p0 : wr.cell? ⟨b, o + j * 2, none⟩ = some (.string z.1) := (hbj.cell (p := ⟨b, o + j * 2, none⟩) hbw).trans (hcell j z hz).1
            have p1 : wr.cell? ⟨b, o + j * 2 + 1, none⟩ = some (.string z.2) := (hbj.cell (p := ⟨b, o + j * 2 + 1, none⟩) hbw).trans (hcell j z hz).2
            have hzs := szA_at hz
            have hzn : z.2.size ≤ 1000000 := by have := HNE.out; omega
            obtain ⟨q, hq⟩ : ∃ q, isB z.2.data.toList = q := ⟨_, rfl⟩
            have hai := fun w => is_any z.2 w hzn
            simp only [hq] at hai
            have HAI := Lib.hid hai
            have HZ := Lib.hid hz
            have HQ := Lib.hid hq
            have hin1 : (j : Int) < (n.attrs.length : Int) := by omega
            clear hcell hz hai hq
            cases q with
            | false =>
              have H2 := Lib.hid (valE_false HZ.out HQ.out)
              go_wp2_with fail
              refine (HAI.out _).mono ?_
              rintro e w2 ⟨rfl, hb2⟩
              have hB2 := below_after HB1.out (below_after hbj (below_after (below_new _ _) hb2))
              go_wp2_with fail
              go_ret
              refine ⟨?_, hB2⟩
              rw [HAL.out, H2.out]
              rfl
            | true =>
              have HN := Lib.hid (show ∀ b ∈ n.attrs.take (j + 1), isB b.2.data.toList = true by
                intro y hy
                rw [List.take_add_one, HZ.out] at hy
                rcases List.mem_append.1 hy with hy | hy
                · exact HJS.out y hy
                · simp at hy
                  subst hy
                  exact HQ.out)
              go_wp2_with fail
              refine (HAI.out _).mono ?_
              rintro e w2 ⟨rfl, hb2⟩
              have hb22 := below_after hbj (below_after (below_new _ _) hb2)
              go_wp2_with fail
              go_roundw
              case rel => exact ⟨j + 1, by go_num, by omega, HN.out, hb22⟩
              case measure => simp [intOf]; omega
          · have H0 := Lib.hid (show valE n.attrs = 0 by
              unfold valE
              rw [if_pos]
              rw [List.all_eq_true]
              intro a ha
              have := HJS.out
              rw [List.take_of_length_le (by omega)] at this
              exact this a ha)
            have hB2 := below_after HB1.out hbj
            go_wp2_with fail
            go_ret
            refine ⟨?_, hB2⟩
            rw [HAL.out, H0.out]
            rfl

end Go.Proofs.Ytoidjkkjnhnbhaa

/- Part DFlt. -/
namespace Go.Proofs.Ytoidjkkjnhnbhaa
open Go.RowKit
set_option linter.unusedVariables false

theorem isEmpty_iff (s : ByteArray) {q : Bool} (h : s.toList.isEmpty = q) : (s.data.toList = []) ↔ q = true := by rw [← h, empty_iff]; simp

set_option maxHeartbeats 4000000 in
set_option maxRecDepth 100000 in
theorem faultD_any (S : Nat → Prop) (b : Bool) (n : Nd) (va vk : Value) (w : World) (hat : AttrsAt S w n.attrs va) (hkt : Tree S w n.kids vk) (hS : ∀ b, S b → b < w.heap.size) (hsz : szN n ≤ 100000) :
    Calls Try.prog 42 #[.agg #[.int .i64 n.kind, .string n.name, va, .string n.text, vk], .bool b] w fun e w' => e = .returned (.int .i64 (nodeE b n)) ∧ Below w.heap.size w w' := by
  have hne := szN_eq n
  have htz : n.text.size ≤ 1000000 := by omega
  have hat0 := hat
  obtain ⟨A, c, rfl, hc, _⟩ := hat
  obtain ⟨A', c', rfl, hc'⟩ := hkt.shape
  have HT := Lib.hid (fun (W : World) (h : Below w.heap.size w W) => taggedD_any (· < w.heap.size) n _ (.slice A' n.kids.length c') W ((hat0.mono hS).keep (Kept.belowB h fun b h => h)) (fun b hb => Nat.lt_of_lt_of_le hb h.size) hsz)
  have HSH := Lib.hid (fun W => shapedD_any n.kind n.name n.text A A' n.attrs.length n.kids.length c c' W)
  obtain ⟨qs, hqs⟩ : ∃ q, shB n.kind n.name n.attrs.length n.text n.kids.length = q := ⟨_, rfl⟩
  rw [hqs] at HSH
  obtain ⟨q3, h3⟩ : ∃ q, n.text.toList.isEmpty = q := ⟨_, rfl⟩
  obtain ⟨q1, h1⟩ : ∃ q, n.name.toList.isEmpty = q := ⟨_, rfl⟩
  have ht3 := isEmpty_iff n.text h3
  have ht1 := isEmpty_iff n.name h1
  obtain ⟨q2, h2⟩ : ∃ q, isB n.text.data.toList = q := ⟨_, rfl⟩
  have hIs := fun w => is_any n.text w htz
  simp only [h2] at hIs
  have HI := Lib.hid hIs
  obtain ⟨q4, h4⟩ : ∃ q, (n.kind == 2) = q := ⟨_, rfl⟩
  obtain ⟨q5, h5⟩ : ∃ q, (n.kind == 1) = q := ⟨_, rfl⟩
  have key : nodeE b n = if qs = false then 7 else if q5 = true then tagE n else if q4 = true ∧ (b = true ∨ q3 = true) then 2 else if q2 = true then 0 else 2 := by
    unfold nodeE
    unfold shB at hqs
    rw [h1, h3] at hqs
    by_cases k1 : n.kind = 1
    · have e5 : q5 = true := by rw [← h5]; simp [k1]
      rw [if_pos k1] at hqs ⊢
      subst hqs
      unfold elemE tagE
      by_cases e : n.text.data.toList = []
      · rw [if_pos e, if_neg (show ¬ (q3 = false) by rw [ht3.1 e]; decide), if_pos e5]
      · have e3 : q3 = false := by cases q3 with
          | false => rfl
          | true => exact absurd (ht3.2 rfl) e
        rw [if_neg e, if_pos e3]
    · have e5 : q5 = false := by rw [← h5]; simp [k1]
      rw [if_neg k1] at hqs ⊢
      rw [e5, if_neg (show ¬ (false = true) by decide)]
      by_cases k23 : n.kind = 2 ∨ n.kind = 3
      · rw [if_pos k23] at hqs ⊢
        have e4 : n.kind = 2 ↔ q4 = true := by rw [← h4]; simp
        have ea : (n.attrs.length == 0) = true ↔ n.attrs = [] := by rw [beq_iff_eq, List.length_eq_zero_iff]
        have ek : (n.kids.length == 0) = true ↔ n.kids = [] := by rw [beq_iff_eq, List.length_eq_zero_iff]
        cases qs with
        | false =>
          rw [if_pos rfl, if_neg]
          rintro ⟨e1, e2, e3⟩
          rw [ht1.1 e1, ea.2 e2, ek.2 e3] at hqs
          cases hqs
        | true =>
          rw [Bool.and_eq_true, Bool.and_eq_true] at hqs
          rw [if_neg (show ¬ (true = false) by decide), if_pos ⟨ht1.2 hqs.1.1, ea.1 hqs.1.2, ek.1 hqs.2⟩]
          by_cases hx : q4 = true ∧ (b = true ∨ q3 = true)
          · rw [if_pos hx, if_neg]
            rintro ⟨_, hn⟩
            exact hn ⟨e4.2 hx.1, hx.2.elim .inr (fun h => .inl (ht3.2 h))⟩
          · rw [if_neg hx]
            cases q2 with
            | true =>
              rw [if_pos rfl, if_pos]
              exact ⟨h2, fun ⟨a, c⟩ => hx ⟨e4.1 a, c.elim (fun h => .inr (ht3.1 h)) .inl⟩⟩
            | false =>
              rw [if_neg (show ¬ (false = true) by decide), if_neg]
              rintro ⟨a, _⟩
              rw [h2] at a
              cases a
      · rw [if_neg k23] at hqs ⊢
        rw [← hqs, if_pos rfl]
  have hcells : ∀ (j : Nat) (u : Value), #[Value.int .i64 n.kind, .string n.name, .slice A n.attrs.length c, .string n.text, .slice A' n.kids.length c'][j]? = some u →
      ∀ w1, Below (w.alloc (.cells #[.int .i64 n.kind, .string n.name, .slice A n.attrs.length c, .string n.text, .slice A' n.kids.length c'] 32)).heap.size (w.alloc (.cells #[.int .i64 n.kind, .string n.name, .slice A n.attrs.length c, .string n.text, .slice A' n.kids.length c'] 32)) w1 → w1.cell? ⟨w.heap.size, j, none⟩ = some u := by
    intro j u hj w1 h1
    rw [h1.cell (p := ⟨w.heap.size, j, none⟩) (by simp)]
    rw [World.cell?_alloc_mark]
    exact hj
  have HC := Lib.hid hcells
  rw [key]
  clear hcells hat0 hkt hqs ht3 ht1 h1 h2 hIs key hne hc hc'
  go_enter Try.func42, Try.ntmps42
  go_wp2_with fail
  refine (HSH.out _).mono ?_
  rintro e w1 ⟨rfl, hb1⟩
  have c0 := HC.out 0 _ rfl w1 hb1
  have c1 := HC.out 1 _ rfl w1 hb1
  have c2 := HC.out 2 _ rfl w1 hb1
  have c3 := HC.out 3 _ rfl w1 hb1
  have c4 := HC.out 4 _ rfl w1 hb1
  have hB1 := below_after (below_new w _) hb1
  clear hb1
  cases qs with
  | false =>
    go_wp2_with fail
    go_ret
    exact ⟨rfl, hB1⟩
  | true =>
    cases q5 with
    | true =>
      have HT1 := Lib.hid (HT.out w1 hB1)
      have HB1 := Lib.hid hB1
      clear hB1
      go_wp2_with fail
      refine HT1.out.mono ?_
      rintro e w2 ⟨rfl, hb2⟩
      have hB2 := below_after HB1.out hb2
      go_wp2_with fail
      go_ret
      exact ⟨rfl, hB2⟩
    | false =>
      cases q4
      case' true => cases b
      case' true.false => cases q3
      all_goals first
        | (go_wp2_with fail
           go_ret
           exact ⟨rfl, hB1⟩)
        | (cases q2
           all_goals
             go_wp2_with fail
             refine (HI.out _).mono ?_
             rintro e w2 ⟨rfl, hb2⟩
             have hB2 := below_after hB1 hb2
             go_wp2_with fail
             go_ret
             exact ⟨rfl, hB2⟩)

end Go.Proofs.Ytoidjkkjnhnbhaa

/- Part StillIn. -/
namespace Go.Proofs.Ytoidjkkjnhnbhaa
open Go.RowKit Go.Shelf
set_option linter.unusedVariables false

variable {P : Program} {ops : Array Oper} {Q : Exit → Act → World → Prop} {md : Region.Mode}

theorem opIn_of_op {lp n i : Nat} {K : Act → World → Prop} {a : Act} {w : World} (hnd : ∀ o, ops[i]? = some o → ∀ c, o.op ≠ .defer c) (hno : ¬ LetsOut Q) (h : wpOp P ops Q i K a w) :
    wpOpIn (Fence.wide.inRound lp) n P ops Q i K a w := by
  unfold wpOp at h
  unfold wpOpIn
  cases ho : ops[i]? with
  | none => simp only [ho] at h ⊢; exact h
  | some o =>
    simp only [ho] at h ⊢
    by_cases hw : Region.wanted o (yielded ops a.tmps) = true
    · simp only [hw, if_true] at h ⊢
      rcases h with h | ⟨_, h⟩
      · unfold Oper.wp at h
        unfold Oper.wpIn
        refine ⟨fun _ _ => trivial, ?_⟩
        rw [show (Fence.wide.inRound lp).round = some lp from rfl, Oper.semAt_some lp _ _ (hnd o ho)]
        generalize (execOp a.eval o).run P w = r at *
        cases r with
        | ok x w' =>
          cases x <;> simp only [Oper.upon, Oper.uponIn] at h ⊢
          case enter f args => exact ⟨fun h => (by cases h), CallsIn.inRound lp (callsIn_wide.2 h)⟩
          case row f args => exact ⟨fun h => (by cases h), fun c cs _ => let ⟨v, w', r, s⟩ := h c cs; ⟨v, w', r, stepsIn_wide.2 s⟩⟩
          all_goals exact h
        | halt x w' => cases x <;> simp only [Oper.upon, Oper.uponIn] at h ⊢ <;> exact h
      · exact absurd h hno
    · simp only [hw] at h ⊢
      exact ⟨fun _ _ => trivial, h⟩

theorem anyIn_of_any {lp n : Nat} (hnd : ∀ (i : Nat) (o : Oper), ops[i]? = some o → ∀ c, o.op ≠ .defer c) (hno : ¬ LetsOut Q) : ∀ (fuel : Nat) (listed : Array Bool) (a : Act) (w : World),
    wpAny P md ops Q fuel listed a w → wpAnyIn (Fence.wide.inRound lp) n P md ops Q fuel listed a w
  | 0, _, _, _, h => h
  | fuel + 1, listed, a, w, h => ⟨h.1, fun i hi => wpOpIn_mono (fun a w h => anyIn_of_any hnd hno fuel _ a w h) (opIn_of_op (hnd i) hno (h.2 i hi))⟩

/-- An operation that is no 'defer'. -/
def noDefer (o : Oper) : Bool := match o.op with | .defer _ => false | _ => true
theorem noDefer_all {l : List Oper} (h : l.all noDefer = true) : ∀ (i : Nat) (o : Oper), l.toArray[i]? = some o → ∀ c, o.op ≠ .defer c := by
  intro i o hi c hc
  have hm : o ∈ l := List.mem_of_getElem? (by simpa using hi)
  have := List.all_eq_true.1 h o hm
  unfold noDefer at this
  rw [hc] at this
  cases this

theorem wpIn_region_still_tail {lp m : Nat} {id : Nat} {a : Act} {w : World} {l : List Oper} (n : Nat) (hm : P.follows .mixedOrders = true) (hB : Region.lexTailB .any l.toArray n = true)
    (hnd : l.all noDefer = true) (hno : ¬ LetsOut Q)
    (h : wpStill P l.toArray { w with drawn := w.drawn + 1 } (fun a' => wpList P l.toArray Q (l.drop n) a' { w with drawn := w.drawn + 1 }) (l.take n) a) : (Code.region id l.toArray true).wpIn (Fence.wide.inRound lp) m P Q a w := by
  simp only [Region.lexTailB, Bool.and_eq_true, decide_eq_true_eq] at hB
  obtain ⟨⟨⟨⟨hsel, hn⟩, hs⟩, hc⟩, hlex⟩ := hB
  have hn' : n < l.length := by simpa using hn
  have htl : (l.take n).length = n := by simp; omega
  have hdl : (l.drop n).length = l.toArray.size - n := by simp
  have inv0 : HeadInv .any l.toArray n (Array.replicate l.toArray.size false) :=
    ⟨by simp, fun j oj _ hl => (by rw [getD_replicate_false] at hl; cases hl), fun t _ ht => getD_in (by simpa using ht) (getD_replicate_false _ _)⟩
  have H := wpAnyL_lex (md := .any) (g := l.toArray.size - n) hsel hs hc hn (l.take n) 0 _ a (fun j hj => by
    have hj' : j < n := by rw [htl] at hj; exact hj
    simp [hj']) (by simpa using htl) inv0 (by rw [htl]; exact hlex) h
  refine wpIn_region_any hm (anyIn_of_any (noDefer_all hnd) hno _ _ _ _ ?_)
  have := wpAny_of_head (Q' := Q) (g := l.toArray.size - n) (fun listed a' hL => by
    have := wpAny_of_seq (md := .any) (Q' := Q) (l.drop n) n listed a' { w with drawn := w.drawn + 1 } (fun j => by simp [List.getElem?_drop]) (by rw [hdl]; exact hL.1) hL.2
    rwa [hdl] at this) _ _ _ H
  rw [htl, show n + (l.toArray.size - n) = l.toArray.size by omega] at this
  exact this

end Go.Proofs.Ytoidjkkjnhnbhaa
