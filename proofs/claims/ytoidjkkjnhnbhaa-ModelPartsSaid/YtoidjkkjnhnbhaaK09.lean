/- Parts of the proof, in build order: WordR FewR GoodH. -/
import Derived.Test.YtoidjkkjnhnbhaaK08
import Derived.Test.YtoidjkkjnhnbhaaK07
import Derived.Test.YtoidjkkjnhnbhaaK03
import Derived.Test.YtoidjkkjnhnbhaaK06
import Derived.Deep.DeepCutAuto

/- Part WordR. -/
namespace Go.Proofs.Ytoidjkkjnhnbhaa
open Go.RowKit
set_option linter.unusedVariables false

theorem below_newN (w : World) (o : Obj) : Below w.heap.size w (w.alloc o) := (Below.refl _ _).alloc (Nat.le_refl _) _

/-- A text that is a name, as long as another one or six bytes. -/
def SomeName (P : List UInt8 → Bool) (n : Nat) (w : World) (e : Ending) (w' : World) : Prop := ∃ t : ByteArray, e = .returned (.string t) ∧ P t.data.toList = true ∧ t.size ≤ n + 7 ∧ Below w.heap.size w w'

theorem word_cell (w : World) (t : TypeId) (m : Nat) (h : m < 10) :
    ∃ x : ByteArray, (w.alloc (.cells #[.string ⟨#[97]⟩, .string ⟨#[98]⟩, .string ⟨#[112]⟩, .string ⟨#[117, 108]⟩, .string ⟨#[108, 105]⟩, .string ⟨#[98, 114]⟩, .string ⟨#[105, 109, 103]⟩, .string ⟨#[100, 105, 118]⟩, .string ⟨#[115, 99, 114, 105, 112, 116]⟩, .string ⟨#[120, 45, 121]⟩] t)).cell? ⟨w.heap.size, m, none⟩ = some (.string x) ∧ namedB x.data.toList = true ∧ x.size ≤ 7 := by
  have : m = 0 ∨ m = 1 ∨ m = 2 ∨ m = 3 ∨ m = 4 ∨ m = 5 ∨ m = 6 ∨ m = 7 ∨ m = 8 ∨ m = 9 := by omega
  rcases this with rfl | rfl | rfl | rfl | rfl | rfl | rfl | rfl | rfl | rfl
  all_goals exact ⟨_, by simp; rfl, by decide, by decide⟩

set_option maxHeartbeats 2000000 in
theorem word_any (s : ByteArray) (w : World) (hm : s.size ≤ 100000) :
    Calls Try.prog 35 #[.string s] w (SomeName namedB s.size w) := by
  have hn := fun w => namedR_any s w hm
  obtain ⟨q, hq⟩ : ∃ q, namedB s.data.toList = q := ⟨_, rfl⟩
  rw [hq] at hn
  have HN := Lib.hid hn
  have HQ := Lib.hid hq
  clear hn hq
  go_enter Try.func35, Try.ntmps35
  go_wp2_with fail
  go_loop [4, 5] (fun x y => ∃ (n k : Nat), x = .int .i64 n ∧ y = .int .i64 k ∧ k ≤ s.size ∧ n ≤ 255 * k) (fun _ y => s.size - (intOf y).toNat)
  case atStart => exact ⟨0, 0, rfl, rfl, by omega, by omega⟩
  case round =>
    obtain ⟨n, k, rfl, rfl, hk, hn⟩ := hrel
    by_cases hlt : k < s.size
    · have hb := s[k].toNat_lt
      have hb' : (s[k].toNat : Int) ≤ 255 := by omega
      have hn' : (n : Int) ≤ 25500000 := by omega
      clear hb
      go_wp2_with fail
      go_round
      case rel => exact ⟨n + s[k].toNat, k + 1, by go_num, by go_num, by omega, by have := s[k].toNat_lt; omega⟩
      case measure => simp [intOf]; omega
    · have hn' : (n : Int) ≤ 25500000 := by omega
      obtain ⟨t, ht, htn, htz⟩ := word_cell w 9 (n % 10) (by omega)
      have HTN := Lib.hid htn
      clear htn
      cases q with
      | true =>
        clear ht
        go_wp2_with fail
        refine (HN.out _).mono ?_
        rintro e w1 ⟨rfl, rfl⟩
        go_wp2_with fail
        go_ret
        exact ⟨s, rfl, HQ.out, by omega, below_newN _ _⟩
      | false =>
        go_wp2_with fail
        refine (HN.out _).mono ?_
        rintro e w1 ⟨rfl, rfl⟩
        go_wp2_with fail
        go_ret
        exact ⟨t, rfl, HTN.out, by omega, below_newN _ _⟩

theorem attr_cell (w : World) (t : TypeId) (m : Nat) (h : m < 5) :
    ∃ x : ByteArray, (w.alloc (.cells #[.string ⟨#[105, 100]⟩, .string ⟨#[104, 114, 101, 102]⟩, .string ⟨#[116, 105, 116, 108, 101]⟩, .string ⟨#[100, 97, 116, 97, 45, 97]⟩, .string ⟨#[111, 110, 99, 108, 105, 99, 107]⟩] t)).cell? ⟨w.heap.size, m, none⟩ = some (.string x) ∧ attrB x.data.toList = true ∧ x.size ≤ 7 := by
  have : m = 0 ∨ m = 1 ∨ m = 2 ∨ m = 3 ∨ m = 4 := by omega
  rcases this with rfl | rfl | rfl | rfl | rfl
  all_goals exact ⟨_, by simp; rfl, by decide +kernel, by decide⟩

set_option maxHeartbeats 2000000 in
theorem attribute_any (s : ByteArray) (w : World) (hm : s.size ≤ 100000) :
    Calls Try.prog 36 #[.string s] w (SomeName attrB s.size w) := by
  have hn := attrR_any s w hm
  obtain ⟨q, hq⟩ : ∃ q, attrB s.data.toList = q := ⟨_, rfl⟩
  rw [hq] at hn
  have HN := Lib.hid hn
  have HQ := Lib.hid hq
  clear hn hq
  go_enter Try.func36, Try.ntmps36
  go_wp2_with fail
  refine HN.out.mono ?_
  rintro e w1 ⟨rfl, hb1⟩
  obtain ⟨t, ht, htn, htz⟩ := attr_cell w1 9 (s.size % 5) (by omega)
  have HTN := Lib.hid htn
  clear htn
  cases q with
  | true =>
    clear ht
    go_wp2_with fail
    go_ret
    exact ⟨s, rfl, HQ.out, by omega, hb1⟩
  | false =>
    go_wp2_with fail
    go_ret
    exact ⟨t, rfl, HTN.out, by omega, below_after hb1 (below_newN _ _)⟩

/-- What is told of an attribute's name: it may be one; one that may be stays. -/
def AttN (s t : ByteArray) : Prop := attrB t.data.toList = true ∧ (attrB s.data.toList = true → t = s)
def SomeAtt (s : ByteArray) (w : World) (e : Ending) (w' : World) : Prop := ∃ t : ByteArray, e = .returned (.string t) ∧ AttN s t ∧ t.size ≤ s.size + 7 ∧ Below w.heap.size w w'
theorem attribute_eq (s : ByteArray) (w : World) (hm : s.size ≤ 100000) :
    Calls Try.prog 36 #[.string s] w (SomeAtt s w) := by
  have hn := attrR_any s w hm
  obtain ⟨q, hq⟩ : ∃ q, attrB s.data.toList = q := ⟨_, rfl⟩
  rw [hq] at hn
  have HN := Lib.hid hn
  have HQ := Lib.hid hq
  clear hn hq
  go_enter Try.func36, Try.ntmps36
  go_wp2_with fail
  refine HN.out.mono ?_
  rintro e w1 ⟨rfl, hb1⟩
  obtain ⟨t, ht, htn, htz⟩ := attr_cell w1 9 (s.size % 5) (by omega)
  have HTN := Lib.hid htn
  clear htn
  cases q with
  | true =>
    clear ht
    go_wp2_with fail
    go_ret
    exact ⟨s, rfl, ⟨HQ.out, fun _ => rfl⟩, by omega, hb1⟩
  | false =>
    go_wp2_with fail
    go_ret
    exact ⟨t, rfl, ⟨HTN.out, fun h => by rw [HQ.out] at h; cases h⟩, by omega, below_after hb1 (below_newN _ _)⟩

set_option maxHeartbeats 2000000 in
/-- A name that is one stays. -/
theorem word_is (s : ByteArray) (w : World) (hm : s.size ≤ 100000) (hq : namedB s.data.toList = true) :
    Calls Try.prog 35 #[.string s] w fun e w' => e = .returned (.string s) ∧ Below w.heap.size w w' := by
  have hn := fun w => namedR_any s w hm
  rw [hq] at hn
  have HN := Lib.hid hn
  clear hn hq
  go_enter Try.func35, Try.ntmps35
  go_wp2_with fail
  go_loop [4, 5] (fun x y => ∃ (n k : Nat), x = .int .i64 n ∧ y = .int .i64 k ∧ k ≤ s.size ∧ n ≤ 255 * k) (fun _ y => s.size - (intOf y).toNat)
  case atStart => exact ⟨0, 0, rfl, rfl, by omega, by omega⟩
  case round =>
    obtain ⟨n, k, rfl, rfl, hk, hn⟩ := hrel
    by_cases hlt : k < s.size
    · have hb := s[k].toNat_lt
      have hb' : (s[k].toNat : Int) ≤ 255 := by omega
      have hn' : (n : Int) ≤ 25500000 := by omega
      clear hb
      go_wp2_with fail
      go_round
      case rel => exact ⟨n + s[k].toNat, k + 1, by go_num, by go_num, by omega, by have := s[k].toNat_lt; omega⟩
      case measure => simp [intOf]; omega
    · have hn' : (n : Int) ≤ 25500000 := by omega
      go_wp2_with fail
      refine (HN.out _).mono ?_
      rintro e w1 ⟨rfl, rfl⟩
      go_wp2_with fail
      go_ret
      exact ⟨rfl, below_newN _ _⟩

theorem word_eq (s : ByteArray) (w : World) (hm : s.size ≤ 100000) :
    Calls Try.prog 35 #[.string s] w fun e w' => ∃ t : ByteArray, e = .returned (.string t) ∧ namedB t.data.toList = true ∧ t.size ≤ s.size + 7 ∧ Below w.heap.size w w' ∧ (namedB s.data.toList = true → t = s) := by
  by_cases hq : namedB s.data.toList = true
  · refine (word_is s w hm hq).mono ?_
    rintro e w' ⟨rfl, hb⟩
    exact ⟨s, rfl, hq, by omega, hb, fun _ => rfl⟩
  · refine (word_any s w hm).mono ?_
    rintro e w' ⟨t, rfl, h1, h2, hb⟩
    exact ⟨t, rfl, h1, h2, hb, fun h => absurd h hq⟩

end Go.Proofs.Ytoidjkkjnhnbhaa

/- Part FewR. -/
namespace Go.Proofs.Ytoidjkkjnhnbhaa
open Go.RowKit
set_option linter.unusedVariables false
set_option linter.unusedSimpArgs false

theorem few_one (l : List Nd) (v : Value) (w : World) (hT : Tree (· < w.heap.size) w l v) (hF : Fine l) :
    Calls Try.prog 11 #[v] w fun e w' => ∃ (out : List Nd) (v' : Value), e = .returned v' ∧ OwnC w' w.heap.size w.heap.size out v' ∧ szL out ≤ 16800 ∧ Below w.heap.size w w' ∧ Kp l out ∧ (l.length = 1 → (∀ n ∈ l, n.kids = []) → out.length = 1 ∧ szL out ≤ 420) := by
  go_enter Try.func11, Try.ntmps11
  go_wp2_with fail
  refine (cut_any l (· < w.heap.size) v 40 w hT (fun b hb => hb) hF (by omega)).mono ?_
  rintro e w1 ⟨out, v', m, rfl, hm, hown, hsz, hb, hkp, _, hone, hsum⟩
  go_wp2_with fail
  go_ret
  exact ⟨out, v', rfl, hown, by omega, hb, hkp, fun h hk => by have h1 := hone h (by omega); have h2 := hsum hk; exact ⟨h1, by omega⟩⟩
theorem few_any (l : List Nd) (v : Value) (w : World) (hT : Tree (· < w.heap.size) w l v) (hF : Fine l) :
    Calls Try.prog 11 #[v] w fun e w' => ∃ (out : List Nd) (v' : Value), e = .returned v' ∧ OwnC w' w.heap.size w.heap.size out v' ∧ szL out ≤ 16800 ∧ Below w.heap.size w w' ∧ Kp l out :=
  (few_one l v w hT hF).mono fun _ _ ⟨out, v', h1, h2, h3, h4, h5, _⟩ => ⟨out, v', h1, h2, h3, h4, h5⟩

theorem Kp.snocT {l out : List Nd} {k : Nat} {n : Nd} (h : Kp l out) (hn : l[k]? = some n) (hk : n.kind = 2 ∨ n.kind = 3) (t : ByteArray) : Kp l (out ++ [.mk n.kind ⟨#[]⟩ [] t []]) := by
  have hm := List.mem_of_getElem? hn
  refine ⟨fun hs q hq => ?_, fun hs q hq => ?_⟩
  · rcases List.mem_append.1 hq with hq | hq
    · exact h.1 hs q hq
    · simp at hq
      subst hq
      exact hs n hm
  · have := (hs n hm).1
    omega
theorem Kp.snocE {l out G : List Nd} {k : Nat} {n : Nd} {t : ByteArray} (h : Kp l out) (hn : l[k]? = some n) (hk : ¬ (n.kind = 2 ∨ n.kind = 3)) (ht : namedB n.name.data.toList = true → t = n.name) (h2 : Kp n.kids G) {a : List (ByteArray × ByteArray)} (ha : ∀ y ∈ a, ∃ x ∈ n.attrs, AttN x.1 y.1) :
    Kp l (out ++ [.mk 1 t a ⟨#[]⟩ G]) := by
  have hm := List.mem_of_getElem? hn
  refine ⟨fun hs q hq => ?_, fun hs q hq => ?_⟩
  · exact absurd (.inl (hs n hm)) hk
  · rcases List.mem_append.1 hq with hq | hq
    · exact h.2 hs q hq
    · simp at hq
      subst hq
      obtain ⟨e1, e2, e4, e3⟩ := hs n hm
      rw [e2] at ht
      refine ⟨rfl, ht (by decide +kernel), fun y hy => ?_, h2.1 e3⟩
      obtain ⟨x, hx, e⟩ := ha y hy
      have e5 := e.2
      rw [e4 x hx] at e5
      exact e5 (by decide +kernel)
theorem mergeB_inv (P : Nd → Prop) (hP : ∀ x t, P x → P (.mk x.kind x.name x.attrs t x.kids)) : ∀ (l acc : List Nd), (∀ q ∈ acc, P q) → (∀ q ∈ l, P q) → ∀ q ∈ l.foldl mstep acc, P q
  | [], acc, ha, _ => ha
  | n :: l, acc, ha, hl => by
    refine mergeB_inv P hP l (mstep acc n) ?_ (fun q hq => hl q (List.mem_cons_of_mem _ hq))
    unfold mstep
    split
    · exact ha
    · split
      · rename_i h
        rcases List.eq_nil_or_concat acc with rfl | ⟨m, x, rfl⟩
        · simp [lastText] at h
        · rw [List.concat_eq_append] at ha ⊢
          rw [mglue_snoc]
          intro q hq
          rcases List.mem_append.1 hq with hq | hq
          · exact ha q (List.mem_append_left _ hq)
          · simp at hq
            subst hq
            exact hP _ _ (ha x (by simp))
      · intro q hq
        rcases List.mem_append.1 hq with hq | hq
        · exact ha q hq
        · simp at hq
          subst hq
          exact hl _ (by simp)
theorem Kp.merge {l out : List Nd} (h : Kp l out) : Kp l (mergeB out) := by
  refine ⟨fun hs => ?_, fun hs => ?_⟩
  · exact mergeB_inv (fun q => q.kind = 2) (fun x t hx => hx) out [] (fun q hq => by cases hq) (h.1 hs)
  · exact mergeB_inv (fun m => m.kind = 1 ∧ m.name = ⟨#[98]⟩ ∧ (∀ a ∈ m.attrs, a.1 = ⟨#[105, 100]⟩) ∧ ShK m.kids) (fun x t hx => hx) out [] (fun q hq => by cases hq) (h.2 hs)

structure GdAt (w wr : World) (l : List Nd) (k : Nat) (out : List Nd) (v : Value) : Prop where
  le : k ≤ l.length
  own : OwnC wr w.heap.size w.heap.size out v
  sz : szL out ≤ 4 * szL (l.take k)
  ok : preOK out
  bel : Below w.heap.size w wr
  kp : Kp l out
def GdRel (w : World) (l : List Nd) (y z : Value) (wr : World) : Prop := ∃ (k : Nat) (out : List Nd), z = .int .i64 k ∧ GdAt w wr l k out y

/-- What good tells. -/
def GdEnd (w : World) (l : List Nd) (e : Ending) (w' : World) : Prop :=
  ∃ (G : List Nd) (v : Value), e = .returned v ∧ OwnC w' w.heap.size w.heap.size G v ∧ szL G ≤ 4 * szL l ∧ GoodL G ∧ Below w.heap.size w w' ∧ Kp l G

theorem preOK_snoc {out : List Nd} {n : Nd} (h : preOK out) (hn : nodeOK n) (hk : GoodL n.kids) : preOK (out ++ [n]) := by
  refine ⟨fun x hx => ?_, fun x hx => ?_⟩
  · rcases List.mem_append.1 hx with hx | hx
    · exact h.1 x hx
    · simp at hx; subst hx; exact hn
  · rcases List.mem_append.1 hx with hx | hx
    · exact h.2 x hx
    · simp at hx; subst hx; exact hk

theorem szL_snoc_take {l : List Nd} {k : Nat} {n : Nd} (h : l[k]? = some n) : szL (l.take (k + 1)) = szL (l.take k) + szN n := by
  rw [List.take_add_one, h, szL_append]
  simp [szL_cons, szL_nil]

/-- The text of a node that is none or some: an own list with a node more. -/
theorem kept_store3 {w : World} (a : Addr) (v : Value) (ob : Obj) : Kept (fun b => b ≠ a.block ∧ b < w.heap.size) w ((w.setCell a v).alloc ob) := kept_store a v ob

structure InGAt (W0 wr : World) (B : Nat) (al : List (ByteArray × ByteArray)) (j : Nat) (a : List (ByteArray × ByteArray)) (va : Value) : Prop where
  le : j ≤ al.length
  c2 : wr.cell? ⟨B, 2, none⟩ = some va
  ci : ∀ i, i ≠ 2 → wr.cell? ⟨B, i, none⟩ = W0.cell? ⟨B, i, none⟩
  fr : wr.frozen? ⟨B, 2, none⟩ = false
  fr4 : wr.frozen? ⟨B, 4, none⟩ = false
  own : wr.ownsRow W0.heap.size 50 2 va a.length (acells a)
  ok : attrsOK a
  sz : szA a ≤ 4 * szA (al.take j)
  bel : Below B W0 wr
  hz : W0.heap.size ≤ wr.heap.size
  nm : ∀ y ∈ a, ∃ x ∈ al, AttN x.1 y.1
def InGRel (W0 : World) (B : Nat) (al : List (ByteArray × ByteArray)) (y : Value) (wr : World) : Prop := ∃ (j : Nat) (a : List (ByteArray × ByteArray)) (va : Value), y = .int .i64 j ∧ InGAt W0 wr B al j a va

/-- What the making of an attribute leaves. -/
def RegEnd (W : World) (x : ByteArray × ByteArray) (s7 : Value) (wx : World) : Prop :=
  ∃ (g : Nat) (t u : ByteArray), s7 = .pointer (some ⟨g, 0, none⟩) ∧ W.heap.size ≤ g ∧ wx.cell? ⟨g, 0, none⟩ = some (.string t) ∧ wx.cell? ⟨g, 1, none⟩ = some (.string u) ∧ AttN x.1 t ∧ isB u.data.toList = true ∧
    t.size ≤ x.1.size + 7 ∧ u.size ≤ 4 * x.2.size ∧ Below W.heap.size W wx

theorem rightS_any (A : Option Addr) (c : Nat) (s : ByteArray) (w : World) (hs : Sits w w.heap.size A (Lib.byteCells s.data.toList)) (hc : s.size ≤ c) (hm : s.size ≤ 1000000) :
    Calls Try.prog 34 #[.slice A s.size c] w fun e w' => ∃ u : ByteArray, e = .returned (.string u) ∧ isB u.data.toList = true ∧ u.size ≤ 4 * s.size ∧ Below w.heap.size w w' := by
  rw [str_list] at hc hm ⊢
  refine (rightR_any A c s.data.toList w hs hc hm).mono ?_
  rintro e w' ⟨rfl, hb⟩
  exact ⟨_, rfl, isB_right _, right_len _, hb⟩

theorem sits_now (W : World) (s : ByteArray) (cap : Nat) :
    Sits (W.alloc (.cells (bytesRow s cap) 5 ((bytesRow s cap).size, (bytesRow s cap).size + 1))).drew (W.alloc (.cells (bytesRow s cap) 5 ((bytesRow s cap).size, (bytesRow s cap).size + 1))).drew.heap.size (some ⟨W.heap.size, 0, none⟩) (Lib.byteCells s.data.toList) := by
  simpa using sits_new W s cap

theorem chain1 {W w' w'' : World} {o : Obj} (h1 : Below W.drew.heap.size W.drew w') (h2 : Below (w'.alloc o).drew.heap.size (w'.alloc o).drew w'') : Below W.heap.size W w'' :=
  below_after (below_after (below_after ((Below.refl _ W).drew) h1) (((Below.refl _ w').alloc (Nat.le_refl _) o).drew)) h2
theorem chain2 {W w' w'' : World} {o : Obj} (h1 : Below (W.alloc o).drew.heap.size (W.alloc o).drew w') (h2 : Below w'.heap.size w' w'') : Below W.heap.size W w'' :=
  below_after (below_after (((Below.refl _ W).alloc (Nat.le_refl _) o).drew) h1) h2

theorem cell_keep {W w' : World} {b i : Nat} {v : Value} (hb : Below W.heap.size W w') (h : W.cell? ⟨b, i, none⟩ = some v) : w'.cell? ⟨b, i, none⟩ = some v :=
  (hb.cell (p := ⟨b, i, none⟩) (World.block_lt_of_cell? W ⟨b, i, none⟩ h)).trans h

theorem keep3 {W w' : World} {b1 i1 b2 i2 b3 i3 : Nat} {v1 v2 v3 : Value} (hb : Below W.heap.size W w') (h : W.cell? ⟨b1, i1, none⟩ = some v1 ∧ W.cell? ⟨b2, i2, none⟩ = some v2 ∧ W.cell? ⟨b3, i3, none⟩ = some v3) :
    w'.cell? ⟨b1, i1, none⟩ = some v1 ∧ w'.cell? ⟨b2, i2, none⟩ = some v2 ∧ w'.cell? ⟨b3, i3, none⟩ = some v3 := ⟨cell_keep hb h.1, cell_keep hb h.2.1, cell_keep hb h.2.2⟩

theorem bcell {W w1 : World} (hb : Below W.heap.size W w1) : (∀ b o, b < W.heap.size → w1.cell? ⟨b, o, none⟩ = W.cell? ⟨b, o, none⟩) ∧ (∀ b o, b < W.heap.size → w1.frozen? ⟨b, o, none⟩ = W.frozen? ⟨b, o, none⟩) :=
  ⟨fun b o h => hb.cell (p := ⟨b, o, none⟩) h, fun b o h => hb.frozen (p := ⟨b, o, none⟩) h⟩

end Go.Proofs.Ytoidjkkjnhnbhaa

/- Part GoodH. -/
namespace Go.Proofs.Ytoidjkkjnhnbhaa
open Go.RowKit
set_option linter.unusedVariables false

/-- The making of bytes out of a text, under a name. -/
def cvOp : Op := Op.convert 9 52 (.tmp 81)

theorem below_swap {a W : World} {o o' : Obj} (h : Below a.heap.size a (W.alloc o)) (hz : a.heap.size ≤ W.heap.size) : Below a.heap.size a (W.alloc o') :=
  ⟨h.os, h.tape, h.output, by have := h.size; simpa using this, fun k hk => by
    have h1 := h.block k hk
    have e : ∀ ob : Obj, (W.alloc ob).heap[k]? = W.heap[k]? := fun ob => Below.heap_alloc W ob k (by omega)
    rw [e] at h1 ⊢
    exact h1⟩
theorem below_n1 (W : World) (o : Obj) : Below W.drew.heap.size W.drew (W.alloc o).drew := below_new W.drew o
theorem below_n2 (W : World) (o : Obj) : Below W.drew.drew.heap.size W.drew.drew (W.alloc o).drew.drew := below_new W.drew.drew o
theorem below_c2 (W : World) (o : Obj) : Below W.drew.heap.size W.drew (W.alloc o).drew.drew := (below_new W.drew o).drew
theorem sits_step {w w' : World} {A : Option Addr} {xs : List Value} (h : Sits w w.heap.size A xs) (hb : Below w.heap.size w w') : Sits w' w'.heap.size A xs := (h.below hb).more hb.size
theorem sits_at {W : World} {s : ByteArray} {cap g : Nat} (hg : g = W.heap.size) :
    Sits (W.alloc (.cells (bytesRow s cap) 5 ((bytesRow s cap).size, (bytesRow s cap).size + 1))).drew (W.alloc (.cells (bytesRow s cap) 5 ((bytesRow s cap).size, (bytesRow s cap).size + 1))).drew.heap.size (some ⟨g, 0, none⟩) (Lib.byteCells s.data.toList) := by
  subst hg
  exact sits_now W s cap
theorem sits_at2 {W : World} {s : ByteArray} {cap g : Nat} (hg : g = W.heap.size) :
    Sits (W.alloc (.cells (bytesRow s cap) 5 ((bytesRow s cap).size, (bytesRow s cap).size + 1))).drew.drew (W.alloc (.cells (bytesRow s cap) 5 ((bytesRow s cap).size, (bytesRow s cap).size + 1))).drew.drew.heap.size (some ⟨g, 0, none⟩) (Lib.byteCells s.data.toList) :=
  sits_step (sits_at hg) ((Below.refl _ _).drew)

theorem regEnd_alloc {W w' : World} {x : ByteArray × ByteArray} {t u : ByteArray} {ty : TypeId} (hz : W.heap.size ≤ w'.heap.size) (ht : AttN x.1 t) (hu : isB u.data.toList = true)
    (htz : t.size ≤ x.1.size + 7) (huz : u.size ≤ 4 * x.2.size) (hb : Below W.heap.size W (w'.alloc (.cells #[.string t, .string u] ty))) : RegEnd W x (.pointer (some ⟨w'.heap.size, 0, none⟩)) (w'.alloc (.cells #[.string t, .string u] ty)) :=
  ⟨_, t, u, rfl, hz, by simp, by simp, ht, hu, htz, huz, hb⟩
theorem regEnd_set {W w' : World} {x : ByteArray × ByteArray} {t u : ByteArray} {g : Nat} (hz : W.heap.size ≤ g) (h0 : w'.cell? ⟨g, 0, none⟩ = some (.string ⟨#[]⟩)) (h1 : w'.cell? ⟨g, 1, none⟩ = some (.string ⟨#[]⟩)) (ht : AttN x.1 t) (hu : isB u.data.toList = true)
    (htz : t.size ≤ x.1.size + 7) (huz : u.size ≤ 4 * x.2.size) (hb : Below W.heap.size W ((w'.setCell ⟨g, 0, none⟩ (.string t)).setCell ⟨g, 1, none⟩ (.string u))) :
    RegEnd W x (.pointer (some ⟨g, 0, none⟩)) ((w'.setCell ⟨g, 0, none⟩ (.string t)).setCell ⟨g, 1, none⟩ (.string u)) := by
  refine ⟨_, t, u, rfl, hz, ?_, ?_, ht, hu, htz, huz, hb⟩
  · rw [World.cell?_setCell_other _ _ _ _ (by simp)]
    exact World.cell?_setCell_same _ _ _ h0
  · refine World.cell?_setCell_same _ _ _ (u := .string ⟨#[]⟩) ?_
    rw [World.cell?_setCell_other _ _ _ _ (by simp)]
    exact h1

theorem szA_take {l : List (ByteArray × ByteArray)} {j : Nat} {x : ByteArray × ByteArray} (h : l[j]? = some x) : szA (l.take (j + 1)) = szA (l.take j) + (10 + x.1.size + x.2.size) := by
  rw [List.take_add_one, h, szA_append]
  simp [szA]

theorem InGAt.skip {W0 wr w3 : World} {B j : Nat} {al a : List (ByteArray × ByteArray)} {va : Value} (h : InGAt W0 wr B al j a va) {x : ByteArray × ByteArray} (hx : al[j]? = some x) (hb : Below wr.heap.size wr w3) (hB : B < W0.heap.size) :
    InGAt W0 w3 B al (j + 1) a va := by
  have hBr : B < wr.heap.size := Nat.lt_of_lt_of_le hB h.hz
  refine ⟨(List.getElem?_eq_some_iff.1 hx).1, (hb.cell (p := ⟨B, 2, none⟩) hBr).trans h.c2, fun i hi => (hb.cell (p := ⟨B, i, none⟩) hBr).trans (h.ci i hi), (hb.frozen (p := ⟨B, 2, none⟩) hBr).trans h.fr,
    (hb.frozen (p := ⟨B, 4, none⟩) hBr).trans h.fr4, own_below h.own hb, h.ok, ?_, h.bel.trans (hb.mono (Nat.le_of_lt hBr)), Nat.le_trans h.hz hb.size, h.nm⟩
  have := h.sz
  rw [szA_take hx]
  omega

theorem attrsOK_snoc {a : List (ByteArray × ByteArray)} {t u : ByteArray} (h : attrsOK a) (ht : attrB t.data.toList = true) (hu : isB u.data.toList = true) (hn : ∀ y ∈ a, y.1 ≠ t) : attrsOK (a ++ [(t, u)]) := by
  refine ⟨fun y hy => ?_, ?_⟩
  · rcases List.mem_append.1 hy with hy | hy
    · exact h.1 y hy
    · simp at hy; subst hy; exact ⟨ht, hu⟩
  · rw [List.pairwise_append]
    refine ⟨h.2, by simp, fun y hy z hz => ?_⟩
    simp at hz
    subst hz
    exact hn y hy

/-- A cell is another one: no other block has turned. -/
theorem grown_set (W : World) (b i : Nat) (v : Value) : W.grownBy (W.setCell ⟨b, i, none⟩ v) (some b) :=
  ⟨rfl, rfl, rfl, by simp [World.setCell], fun k hk hne => by
    have : k ≠ b := fun e => hne (by rw [e])
    simp [World.setCell, Array.getElem?_modify, Ne.symm this]⟩

theorem InGAt.more {W0 wr w4 w5 : World} {B j : Nat} {al a : List (ByteArray × ByteArray)} {va v' : Value} (h : InGAt W0 wr B al j a va) {x : ByteArray × ByteArray} (hx : al[j]? = some x) (hb : Below wr.heap.size wr w4) (hB : B < W0.heap.size)
    {t u : ByteArray} (own' : w5.ownsRow W0.heap.size 50 2 v' (a.length + 1) (acells a ++ [.string t, .string u])) (hg : w4.grownBy w5 va.ownBlock)
    (ht : AttN x.1 t) (hu : isB u.data.toList = true) (htz : t.size ≤ x.1.size + 7) (huz : u.size ≤ 4 * x.2.size) (hn : valA a t = none) :
    InGAt W0 (w5.setCell ⟨B, 2, none⟩ v') B al (j + 1) (a ++ [(t, u)]) v' := by
  have hBr : B < wr.heap.size := Nat.lt_of_lt_of_le hB h.hz
  have hB4 : B < w4.heap.size := Nat.lt_of_lt_of_le hBr hb.size
  have hne : some B ≠ va.ownBlock := fun e => by
    have := (h.own.lt B e.symm).1
    omega
  have hbk : w5.heap[B]? = wr.heap[B]? := (hg.block B hB4 hne).trans (hb.block B hBr)
  have hc : ∀ i, w5.cell? ⟨B, i, none⟩ = wr.cell? ⟨B, i, none⟩ := fun i => World.cell?_of_block (a := ⟨B, i, none⟩) hbk
  have hf : ∀ i, w5.frozen? ⟨B, i, none⟩ = wr.frozen? ⟨B, i, none⟩ := fun i => by
    unfold World.frozen?
    rw [hbk]
  refine ⟨(List.getElem?_eq_some_iff.1 hx).1, World.cell?_setCell_same _ _ _ ((hc 2).trans h.c2), fun i hi => ?_, ?_, ?_, ?_, attrsOK_snoc h.ok ht.1 hu (valA_none.1 hn), ?_, ?_, ?_, ?_⟩
  · rw [World.cell?_setCell_other _ _ _ _ (fun e => hi (by injection e with _ e _; exact e.symm)), hc]
    exact h.ci i hi
  · rw [World.frozen?_setCell, hf]; exact h.fr
  · rw [World.frozen?_setCell, hf]; exact h.fr4
  · have e1 : (a ++ [(t, u)]).length = a.length + 1 := by simp
    have e2 : acells (a ++ [(t, u)]) = acells a ++ [.string t, .string u] := by rw [acells_append]; rfl
    rw [e1, e2]
    exact own'.kept (grown_set w5 B 2 v') (.inr fun e => by have := (own'.lt B e).1; omega)
  · have := h.sz
    rw [szA_append, szA_take hx]
    simp only [szA]
    omega
  · have h1 : Below B W0 w4 := h.bel.trans (hb.mono (Nat.le_of_lt hBr))
    exact (h1.grown hg (Nat.le_of_lt hB4) (fun k hk => by have := (h.own.lt k hk).1; omega)).setCell (p := ⟨B, 2, none⟩) (Nat.le_refl _) _
  · have := hg.size
    have := hb.size
    have := h.hz
    simp
    omega
  · intro y hy
    rcases List.mem_append.1 hy with hy | hy
    · exact h.nm y hy
    · simp at hy
      subst hy
      exact ⟨x, List.mem_of_getElem? hx, ht⟩

/-- Another block's cells, behind an append to a row of the call's own. -/
theorem far_two {w w' w0 : World} {B base : Nat} {v : Value} {n : Nat} {e : TypeId} {s : Nat} {xs : List Value} (hg : w.grownBy w' v.ownBlock) (h : w0.ownsRow base e s v n xs) (hB : B < base) (hz : B < w.heap.size) :
    (∀ i, w'.cell? ⟨B, i, none⟩ = w.cell? ⟨B, i, none⟩) ∧ ∀ i, w'.frozen? ⟨B, i, none⟩ = w.frozen? ⟨B, i, none⟩ := by
  have hbk : w'.heap[B]? = w.heap[B]? := hg.block B hz (fun e => by have := (h.lt B e.symm).1; omega)
  refine ⟨fun i => World.cell?_of_block (a := ⟨B, i, none⟩) hbk, fun i => ?_⟩
  unfold World.frozen?
  rw [hbk]

/-- A call's own attributes, as they can be read. -/
theorem own_attrs {w : World} {base : Nat} {l : List (ByteArray × ByteArray)} {v : Value} (h : w.ownsRow base 50 2 v l.length (acells l)) : AttrsAt (fun b => v.ownBlock = some b) w l v := by
  obtain ⟨A, c, rfl, hc⟩ := own_size h
  exact ⟨A, c, rfl, hc, Cells.own h⟩

/-- What a new element is put together of lies where it may. -/
theorem good_kept {w wo W0 wr w1 : World} {out G : List Nd} {v0 va vG : Value} {a al : List (ByteArray × ByteArray)} {j : Nat} (hown : OwnC wo w.heap.size w.heap.size out v0) (hbel : Below w.heap.size w wo)
    (hB0 : Below wo.heap.size wo W0) (hz : wo.heap.size < W0.heap.size) (HI : InGAt W0 wr wo.heap.size al j a va) (hb1 : Below wr.heap.size wr w1) (hG : OwnC w1 wr.heap.size wr.heap.size G vG) :
    Below w.heap.size w (w1.setCell ⟨wo.heap.size, 4, none⟩ vG) ∧ ∀ ob : Obj, OwnC ((w1.setCell ⟨wo.heap.size, 4, none⟩ vG).alloc ob) w.heap.size w.heap.size out v0 ∧
      AttrsAt (Sub w.heap.size ((w1.setCell ⟨wo.heap.size, 4, none⟩ vG).alloc ob) v0) ((w1.setCell ⟨wo.heap.size, 4, none⟩ vG).alloc ob) a va ∧
      Tree (Sub w.heap.size ((w1.setCell ⟨wo.heap.size, 4, none⟩ vG).alloc ob) v0) ((w1.setCell ⟨wo.heap.size, 4, none⟩ vG).alloc ob) G vG := by
  have h1 := HI.hz
  have h2 := hb1.size
  have h3 := hbel.size
  have hs : (w1.setCell ⟨wo.heap.size, 4, none⟩ vG).heap.size = w1.heap.size := by simp
  have hbo : Below wo.heap.size wo (w1.setCell ⟨wo.heap.size, 4, none⟩ vG) := ((hB0.trans HI.bel).trans (hb1.mono (by omega))).setCell (p := ⟨wo.heap.size, 4, none⟩) (Nat.le_refl _) _
  have far : ∀ (ob : Obj) (b : Nat), b ≠ wo.heap.size → b < w1.heap.size → ∀ i, ((w1.setCell ⟨wo.heap.size, 4, none⟩ vG).alloc ob).cell? ⟨b, i, none⟩ = w1.cell? ⟨b, i, none⟩ := by
    intro ob b hb hlt i
    rw [World.cell?_alloc_past _ _ _ (by rw [hs]; exact hlt), World.cell?_setCell_far _ _ _ _ (fun e => hb e.symm)]
  have hlt0 := OwnT.lt hown
  refine ⟨hbel.trans (hbo.mono h3), fun ob => ⟨OwnC.later hown (hbo.alloc (by rw [hs]; omega) ob), ?_, ?_⟩⟩
  · refine ((own_attrs HI.own).keep (fun b hb i => ?_)).mono fun b hb => ?_
    · have := HI.own.lt b hb
      rw [far ob b (by omega) (by omega)]
      exact hb1.cell (p := ⟨b, i, none⟩) this.2
    · have h4 := HI.own.lt b hb
      refine ⟨by omega, ?_, fun e => ?_⟩
      · rw [World.size_alloc, hs]; omega
      · have := hlt0 b e; omega
  · refine ((OwnC.tree hG (Nat.le_refl _)).keep (fun b hb i => far ob b (by omega) hb.2 i)).mono fun b hb => ?_
    refine ⟨by omega, ?_, fun e => ?_⟩
    · rw [World.size_alloc, hs]; omega
    · have := hlt0 b e; omega

end Go.Proofs.Ytoidjkkjnhnbhaa
