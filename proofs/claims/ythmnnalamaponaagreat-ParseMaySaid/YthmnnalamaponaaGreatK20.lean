/- Parts of the proof, in build order: TelP DomW DomM Is DNam DTag. -/
import Derived.Test.YthmnnalamaponaaGreatK19
import Derived.Test.YthmnnalamaponaaGreatK01
import Derived.Test.YthmnnalamaponaaGreatK05
import Derived.Test.YthmnnalamaponaaGreatK13
import Derived.BigCall
import Derived.Lib.IndexBytes
import Derived.Test.YthmnnalamaponaaGreatK08
import Derived.Test.YthmnnalamaponaaGreatK10
import Derived.Test.YthmnnalamaponaaGreatK12
import Derived.Test.YthmnnalamaponaaGreatK16

/- Part TelP. -/
namespace Go.Proofs.YthmnnalamaponaaGreat
open Go.RowKit Go.Shelf
set_option linter.unusedVariables false

attribute [local go_sem] Oper.semAt_some

mutual
/-- The places of a node's kids; of a list (the end r of a list l, from place i on). -/
def plN : Nd → List (List Nd × Nat)
  | .mk _ _ _ _ ks => plL ks 0 ks
def plL (l : List Nd) (i : Nat) : List Nd → List (List Nd × Nat)
  | [] => []
  | n :: r => (l, i) :: (plN n ++ plL l (i + 1) r)
end
theorem plN_eq (n : Nd) : plN n = plL n.kids 0 n.kids := by cases n; simp [plN, Nd.kids]
theorem plL_nil (l : List Nd) (i : Nat) : plL l i [] = [] := by simp [plL]
theorem plL_cons (l : List Nd) (i : Nat) (n : Nd) (r : List Nd) : plL l i (n :: r) = (l, i) :: (plL n.kids 0 n.kids ++ plL l (i + 1) r) := by simp [plL, plN_eq]
theorem plL_append (l : List Nd) : ∀ (a b : List Nd) (i : Nat), plL l i (a ++ b) = plL l i a ++ plL l (i + a.length) b
  | [], b, i => by simp [plL_nil]
  | x :: a, b, i => by rw [List.cons_append, plL_cons, plL_cons, plL_append l a b (i + 1), List.length_cons, show i + 1 + a.length = i + (a.length + 1) by omega]; simp
theorem pl_take {l : List Nd} {i : Nat} {n : Nd} (h : l[i]? = some n) : plL l 0 (l.take (i + 1)) = plL l 0 (l.take i) ++ (l, i) :: plL n.kids 0 n.kids := by
  have hi := (List.getElem?_eq_some_iff.1 h).1
  rw [List.take_add_one, h, plL_append, Option.toList_some, plL_cons, plL_nil, List.append_nil, List.length_take, Nat.min_eq_left (by omega), Nat.zero_add]
theorem pl_pre (l : List Nd) (i : Nat) : plL l 0 (l.take i) <+: plL l 0 l := by
  refine ⟨plL l (0 + (l.take i).length) (l.drop i), ?_⟩
  rw [← plL_append, List.take_append_drop]
theorem pl_len_take (l : List Nd) (i : Nat) : (plL l 0 (l.take i)).length ≤ (plL l 0 l).length := (pl_pre l i).length_le

/-- A place without what lies there. -/
def Pos.key {w0 : World} {S : Nat → Prop} {P : List Nd → Nat → Prop} (x : Pos w0 S P) : List Nd × Nat := (x.l, x.i)

set_option maxHeartbeats 2000000 in
set_option maxRecDepth 100000 in
theorem tellP_in (F : Fence) (hd : F.depth = none) (hf : F.fn 57) (hro : F.round = none) (lp n₀ N : Nat) (w0 : World) (S : Nat → Prop) (hS : ∀ b, S b → b < n₀) (P : List Nd → Nat → Prop)
    (J Jx : List (Pos w0 S P) → World → Prop)
    (hY : ∀ (m : Nat) (pre : List (Pos w0 S P)) (x : Pos w0 S P) (W : World), J pre W → pre.length < N → YieldAt F m Tryz.prog lp x.encs W fun e W' =>
      (e = .returned (.bool true) ∧ J (pre ++ [x]) W' ∧ Below n₀ W W') ∨ (e = .returned (.bool false) ∧ Jx (pre ++ [x]) W')) (l : List Nd) :
    ∀ (n : Nat) (v : Value) (pre : List (Pos w0 S P)) (W : World), AllP P l → szL l ≤ 100000 → Tree S w0 l v → Below n₀ w0 W → J pre W → pre.length + (plL l 0 l).length ≤ N →
      CallsIn F n Tryz.prog 57 #[v, .func (.yield lp) #[] #[]] W fun e W' =>
        (e = .returned (.bool true) ∧ (∃ ys : List (Pos w0 S P), ys.map Pos.key = plL l 0 l ∧ J (pre ++ ys) W') ∧ Below n₀ W W') ∨ (e = .returned (.bool false) ∧ ∃ q, q.map Pos.key <+: plL l 0 l ∧ Jx (pre ++ q) W') := by
  induction l using nd_ind with
  | h l ih =>
  intro n v pre W hP hsz hT hB hJ hN
  have hlen := szL_len l
  have hdd : ∀ k : Nat, (F.depth.isSome = true → 1 ≤ k) := fun k h => by rw [hd] at h; cases h
  obtain ⟨A, c, rfl, hc⟩ := hT.shape
  refine callsIn_of_wp Tryz.func57 rfl hf ?_ hro
  simp only [Tryz.ntmps57, List.size_toArray, List.length_cons, List.length_nil, Nat.reduceAdd, Nat.reduceSub, Array.replicate_succ, Array.replicate_zero, List.push_toArray, List.append_toArray, List.nil_append, List.cons_append]
  gi_wp2
  gi_loopw [8] (fun x wr => ∃ (i : Nat) (ys : List (Pos w0 S P)), x = .int .i64 i ∧ i ≤ l.length ∧ ys.map Pos.key = plL l 0 (l.take i) ∧ J (pre ++ ys) wr ∧ Below n₀ W wr) (fun x _ => l.length - (intOf x).toNat)
  case atStart => exact ⟨0, [], rfl, by omega, by simp [plL_nil], by simpa using hJ, Below.refl _ _⟩
  case round =>
    obtain ⟨i, ys, rfl, hi, hys, hJs, hBs⟩ := hrel
    by_cases hlt : i < l.length
    · obtain ⟨b, o, c', hv, _, hSb, hcell⟩ := hT.open_ (by omega)
      injection hv with hA _ hcc
      subst hA
      subst hcc
      obtain ⟨x, hx⟩ : ∃ x, l[i]? = some x := ⟨_, List.getElem?_eq_getElem hlt⟩
      obtain ⟨va, vk, hat⟩ := hcell i x hx
      have hPi : P l i := by cases hP with | mk l h hk => exact h i x hx
      have hPk : AllP P x.kids := by cases hP with | mk l h hk => exact hk i x hx
      have hyl : ys.length = (plL l 0 (l.take i)).length := by rw [← hys, List.length_map]
      have hst := pl_take hx
      have hpp := pl_pre l (i + 1)
      have hle1 := pl_len_take l (i + 1)
      rw [hst] at hpp
      rw [hst, List.length_append, List.length_cons] at hle1
      have hle2 := szL_kids hx
      have hp1 : (ys ++ [(⟨_, i, l, x, hT, hx, hPi⟩ : Pos w0 S P)]).map Pos.key <+: plL l 0 l := by
        rw [List.map_append, hys]
        refine List.IsPrefix.trans ?_ hpp
        exact ⟨plL x.kids 0 x.kids, by simp [Pos.key]⟩
      have hp2 : ∀ q : List (Pos w0 S P), q.map Pos.key <+: plL x.kids 0 x.kids → (ys ++ (⟨_, i, l, x, hT, hx, hPi⟩ : Pos w0 S P) :: q).map Pos.key <+: plL l 0 l := fun q hq => by
        rw [List.map_append, hys]
        refine List.IsPrefix.trans ?_ hpp
        obtain ⟨t, ht⟩ := hq
        exact ⟨t, by rw [← ht]; simp [Pos.key]⟩
      have hy0 := hY (n - 1) (pre ++ ys) ⟨_, i, l, x, hT, hx, hPi⟩ wr hJs (by rw [List.length_append]; omega)
      have hy2 := hy0.mono (R' := fun e W' =>
        (e = .returned (.bool true) ∧ W'.cell? ⟨b, o + i * 5 + 4, none⟩ = some vk ∧ CallsIn F (n - 1) Tryz.prog 57 #[vk, .func (.yield lp) #[] #[]] W' fun e W'' =>
          (e = .returned (.bool true) ∧ (∃ zs : List (Pos w0 S P), zs.map Pos.key = plL l 0 (l.take (i + 1)) ∧ J (pre ++ zs) W'') ∧ Below n₀ W W'') ∨ (e = .returned (.bool false) ∧ ∃ q, q.map Pos.key <+: plL l 0 l ∧ Jx (pre ++ q) W'')) ∨
        (e = .returned (.bool false) ∧ ∃ q, q.map Pos.key <+: plL l 0 l ∧ Jx (pre ++ q) W')) (fun e W' h => h.elim
          (fun ⟨he, hj, hb⟩ => .inl ⟨he, (((hB.trans hBs).trans hb).cell (p := ⟨b, o + i * 5 + 4, none⟩) (hS b hSb)).trans hat.c4,
            (ih i x hx (n - 1) vk (pre ++ ys ++ [⟨_, i, l, x, hT, hx, hPi⟩]) W' hPk (by omega) hat.kids ((hB.trans hBs).trans hb) hj (by simp only [List.length_append, List.length_singleton]; omega)).mono (fun e W'' h => h.elim
              (fun ⟨he, ⟨zs, hz, hjz⟩, hb2⟩ => .inl ⟨he, ⟨ys ++ (⟨_, i, l, x, hT, hx, hPi⟩ : Pos w0 S P) :: zs, by rw [hst, List.map_append, List.map_cons, hys, hz]; rfl, by simpa using hjz⟩, (hBs.trans hb).trans hb2⟩)
              (fun ⟨he, q, hqp, hq⟩ => .inr ⟨he, ys ++ (⟨_, i, l, x, hT, hx, hPi⟩ : Pos w0 S P) :: q, hp2 q hqp, by simpa using hq⟩))⟩)
          (fun ⟨he, hq⟩ => .inr ⟨he, ys ++ [⟨_, i, l, x, hT, hx, hPi⟩], hp1, by simpa using hq⟩))
      obtain ⟨fn, tmps, assign, body, hy, hR⟩ := hy2
      simp only [Pos.encs] at hy
      clear hy0 hst hle1 hcell hat hyl hys hN hY ih hpp hp1 hp2
      gi_wp2_with (first
        | ((try refine ⟨hdd _, ?_⟩); refine hR.mono ?_; clear hR; rintro e W2 (⟨rfl, c4, hcall⟩ | ⟨rfl, q, hqp, hq⟩))
        | ((try refine ⟨hdd _, ?_⟩); gi_at_call 57; refine hcall.mono ?_; clear hcall; rintro e W3 (⟨rfl, ⟨zs, hz, hjz⟩, hb3⟩ | ⟨rfl, q, hqp, hq⟩)))
      · go_roundw
        case rel => exact ⟨i + 1, zs, by go_num, by omega, hz, hjz, hb3⟩
        case measure => simp [intOf]; omega
      · go_ret
        exact .inr ⟨rfl, q, hqp, hq⟩
      · go_ret
        exact .inr ⟨rfl, q, hqp, hq⟩
    · have hil : i = l.length := by omega
      subst hil
      rw [List.take_length] at hys
      gi_wp2
      go_ret
      exact .inl ⟨rfl, ⟨ys, hys, hJs⟩, hBs⟩

theorem all1P_in (F : Fence) (hd : F.depth = none) (n : Nat) (h1 : F.fn 56) (hf : F.fn 57) (hro : F.round = none) (lp Bt n₀ : Nat) (w0 : World) (S : Nat → Prop) (hS : ∀ b, S b → b < n₀) (P : List Nd → Nat → Prop)
    (l : List Nd) (v : Value) (hP : AllP P l) (hsz : szL l ≤ 100000) (hT : Tree S w0 l v) (J Jx : List (Pos w0 S P) → World → Prop)
    (hY : ∀ (pre : List (Pos w0 S P)) (x : Pos w0 S P) (W : World), J pre W → pre.length < (plL l 0 l).length → YieldAt F (n - 1) Tryz.prog lp x.encs W fun e W' =>
      (e = .returned (.bool true) ∧ J (pre ++ [x]) W' ∧ Below n₀ W W') ∨ (e = .returned (.bool false) ∧ Jx (pre ++ [x]) W'))
    (W : World) (hB : Below n₀ w0 W) (hBt : W.cell? ⟨Bt, 0, none⟩ = some v) (h0 : J [] W) :
    CallsIn F n Tryz.prog 56 #[.func (.yield lp) #[] #[], .pointer (some ⟨Bt, 0, none⟩)] W fun e W' => (∃ v, e = .returned v) ∧
      ((∃ ys : List (Pos w0 S P), ys.map Pos.key = plL l 0 l ∧ J ys W') ∨ (∃ pre : List (Pos w0 S P), pre.map Pos.key <+: plL l 0 l ∧ Jx pre W')) := by
  have hdd : ∀ k : Nat, (F.depth.isSome = true → 1 ≤ k) := fun k h => by rw [hd] at h; cases h
  have hp := tellP_in F hd hf hro lp n₀ (plL l 0 l).length w0 S hS P J Jx (fun m pre x W hj hl => YieldAt.deep hd m (hY pre x W hj hl)) l (n - 1) v [] W hP hsz hT hB h0 (by simp)
  obtain ⟨A, c, rfl, hc⟩ := hT.shape
  refine callsIn_of_wp Tryz.func56 rfl h1 ?_ hro
  simp only [Tryz.ntmps56, List.size_toArray, List.length_cons, List.length_nil, Nat.reduceAdd, Nat.reduceSub, Array.replicate_succ, Array.replicate_zero, List.push_toArray, List.append_toArray, List.nil_append, List.cons_append]
  gi_wp2_with ((try refine ⟨hdd _, ?_⟩); gi_at_call 57; refine hp.mono ?_; clear hp; rintro e W1 (⟨rfl, ⟨ys, hys, hJ1⟩, _⟩ | ⟨rfl, q, hqp, hx⟩))
  · go_end0
    exact ⟨⟨_, rfl⟩, .inl ⟨ys, hys, by simpa using hJ1⟩⟩
  · go_end0
    exact ⟨⟨_, rfl⟩, .inr ⟨_, hqp, by simpa using hx⟩⟩

/-- dom.all hands back what tells all places of the list, each ahead of those within; or the first of them. -/
theorem allP_stops (F : Fence) (hd : F.depth = none) (n : Nat) (h1 : F.fn 56) (hf : F.fn 57) (hro : F.round = none) (Bt n₀ : Nat) (w0 : World) (S : Nat → Prop) (hS : ∀ b, S b → b < n₀) (P : List Nd → Nat → Prop)
    (l : List Nd) (v : Value) (hP : AllP P l) (hsz : szL l ≤ 100000) (hT : Tree S w0 l v) (w : World) (hB : Below n₀ w0 w) (hn : n₀ ≤ w.heap.size) (hBt : Bt < w.heap.size) (hc : w.cell? ⟨Bt, 0, none⟩ = some v) :
    SeqStopsK F n Tryz.prog 56 #[.pointer (some ⟨Bt, 0, none⟩)] (Pos.encs (w0 := w0) (S := S) (P := P)) (Below n₀) (fun ys => ys.map Pos.key = plL l 0 l) (fun pre => pre.map Pos.key <+: plL l 0 l) (plL l 0 l).length w := fun lp J Jx W hW _ _ hY h0 =>
  all1P_in F hd n h1 hf hro lp Bt n₀ w0 S hS P l v hP hsz hT J Jx hY W (hB.trans (hW.mono hn)) ((hW.cell (p := ⟨Bt, 0, none⟩) hBt).trans hc) h0

end Go.Proofs.YthmnnalamaponaaGreat

/- Part DomW. -/
namespace Go.Proofs.YthmnnalamaponaaGreat
open Go.RowKit Go.Shelf
set_option linter.unusedVariables false

attribute [local go_sem] Oper.semAt_some

theorem box_of {W : World} {B : Nat} {v : Value} {t : TypeId} (h : W.heap[B]? = some (.cells #[v] t (0, 0))) : W.cell? ⟨B, 0, none⟩ = some v ∧ W.frozen? ⟨B, 0, none⟩ = false := by
  constructor <;> simp [World.cell?, World.frozen?, h]
theorem box_new (W : World) (v : Value) (t : TypeId) : (W.alloc (.cells #[v] t)).cell? ⟨W.heap.size, 0, none⟩ = some v ∧ (W.alloc (.cells #[v] t)).frozen? ⟨W.heap.size, 0, none⟩ = false := box_of (World.alloc_heap_new W _)
theorem box_past {W : World} {a : Addr} {v : Value} (o : Obj) (h : W.cell? a = some v) : (W.alloc o).cell? a = some v := cell_kept h (World.grownBy_alloc W o none) (fun r e => by cases e)
theorem box_past_f {W : World} {a : Addr} {v : Value} (o : Obj) (h : W.cell? a = some v) (hf : W.frozen? a = false) : (W.alloc o).frozen? a = false := (frozen_kept h (World.grownBy_alloc W o none) (fun r e => by cases e)).trans hf

theorem keeps_of_below {w w' : World} (h : Below w.heap.size w w') : KeepsOthers w w' := ⟨h.size, fun j o hj _ => (h.block j (Array.getElem?_eq_some_iff.1 hj).1).trans hj⟩
theorem box_lt {w : World} {p : Addr} {v : Value} (h : w.cell? p = some v) : p.block < w.heap.size := by
  rcases Nat.lt_or_ge p.block w.heap.size with hlt | hge
  · exact hlt
  · unfold World.cell? at h
    rw [Array.getElem?_eq_none hge] at h
    cases h
theorem frozen_below {w w' : World} (h : Below w.heap.size w w') {p : Addr} (hp : p.block < w.heap.size) : w'.frozen? p = w.frozen? p := by
  have := h.block p.block hp
  unfold World.frozen?
  rw [this]

/-- What nodes weigh, one by one. -/
def wtN (n : Nd) : Nat := 1 + n.attrs.length
def wtL (l : List Nd) : Nat := (l.map wtN).sum
theorem wtL_snoc (l : List Nd) (n : Nd) : wtL (l ++ [n]) = wtL l + wtN n := by simp [wtL]

/-- The list at a place is not too great. -/
def PW (l : List Nd) (_ : Nat) : Prop := szL l ≤ 100000
theorem allP_sz : ∀ l : List Nd, szL l ≤ 100000 → AllP PW l := by
  intro l
  induction l using nd_ind with
  | h l ih =>
    intro hs
    exact .mk l (fun i n _ => hs) (fun i n hn => ih i n hn (by have := szL_kids hn; omega))
theorem wtN_le {l : List Nd} {i : Nat} {n : Nd} (h : l[i]? = some n) (hs : szL l ≤ 100000) : wtN n ≤ 10001 := by
  have h1 := szL_at h
  rw [szN_eq] at h1
  have h2 := szA_len n.attrs
  unfold wtN
  omega
theorem pos_wt {w0 : World} {S : Nat → Prop} : ∀ pre : List (Pos w0 S PW), wtL (pre.map Pos.n) ≤ 10001 * pre.length
  | [] => by simp [wtL]
  | x :: pre => by
    have h1 := pos_wt pre
    have h2 := wtN_le x.at_ x.ok
    have h3 : wtL ((x :: pre).map Pos.n) = wtN x.n + wtL (pre.map Pos.n) := by simp [wtL]
    rw [h3, List.length_cons]
    omega
theorem allN_sz : ∀ l : List Nd, 10 * (allN l).length ≤ szL l := by
  intro l
  induction l using nd_ind with
  | h l ih =>
    have key : ∀ m : List Nd, (∀ x ∈ m, 10 * (allN x.kids).length ≤ szL x.kids) → 10 * (allN m).length ≤ szL m := by
      intro m
      induction m with
      | nil => intro _; simp [allN_nil, szL]
      | cons x m ihm =>
        intro h
        have h1 := h x (by simp)
        have h2 := ihm fun y hy => h y (by simp [hy])
        have h3 := szN_eq x
        rw [allN_cons, szL_cons, List.length_cons, List.length_append]
        omega
    exact key l fun x hx => by
      obtain ⟨i, hi, he⟩ := List.mem_iff_getElem.1 hx
      exact ih i x (by rw [List.getElem?_eq_getElem hi, he])

theorem i64_id (n : Int) (h0 : -1000000000000 ≤ n) (h1 : n ≤ 1000000000000) : IntKind.i64.wrap n = n := by rw [IntKind.wrap_i64]; omega
theorem i64_sum (s na : Nat) (h1 : na ≤ 10000) (h2 : s ≤ 1000000000) : IntKind.i64.wrap ((s : Int) + IntKind.i64.wrap (1 + (na : Int))) = (s : Int) + (1 + (na : Int)) := by
  rw [i64_id (1 + (na : Int)) (by omega) (by omega), i64_id _ (by omega) (by omega)]

end Go.Proofs.YthmnnalamaponaaGreat

/- Part DomM. -/
namespace Go.Proofs.YthmnnalamaponaaGreat
set_option linter.unusedVariables false

/-- A text of characters that may be. -/
def okT (l : List UInt8) : Prop := ∃ L : List Int, (∀ r ∈ L, okN r) ∧ l = enc L
theorem okT_right (l : List UInt8) : okT (right l) := ⟨_, norm_ok (runes l) 0 (runes_ok _ l (Nat.le_refl _)), rfl⟩
theorem okT_append {a b : List UInt8} (ha : okT a) (hb : okT b) : okT (a ++ b) := by
  obtain ⟨A, hA, rfl⟩ := ha
  obtain ⟨B, hB, rfl⟩ := hb
  refine ⟨A ++ B, fun r hr => ?_, (enc_append _ _).symm⟩
  rcases List.mem_append.1 hr with h | h
  · exact hA r h
  · exact hB r h
theorem okT_is {l : List UInt8} (h : okT l) : isB l = true := by
  obtain ⟨L, hL, rfl⟩ := h
  exact isB_enc L hL
theorem okT_nil : okT [] := ⟨[], by simp, rfl⟩
theorem okT_one {c : Int} (h : okN c) {l : List UInt8} (hl : enc [c] = l) : okT l := ⟨[c], by simpa using h, hl.symm⟩
theorem okT_c : okT [99] := okT_one (c := 99) (by unfold okN okR; omega) (by decide)
theorem okT_x : okT [120] := okT_one (c := 120) (by unfold okN okR; omega) (by decide)

/-- A node that is a text or a comment, with nothing else. -/
def pn (k : Int) (t : ByteArray) : Nd := .mk k ⟨#[]⟩ [] t []
structure PN (n : Nd) : Prop where
  eq : n = pn n.kind n.text
  kind : n.kind = 2 ∨ n.kind = 3
  ok : okT n.text.data.toList
theorem PN.mk' {k : Int} {t : ByteArray} (hk : k = 2 ∨ k = 3) (ht : okT t.data.toList) : PN (pn k t) := ⟨rfl, hk, ht⟩
theorem PN.kids {n : Nd} (h : PN n) : n.kids = [] := by rw [h.eq]; rfl
theorem PN.attrs {n : Nd} (h : PN n) : n.attrs = [] := by rw [h.eq]; rfl
theorem PN.name {n : Nd} (h : PN n) : n.name = ⟨#[]⟩ := by rw [h.eq]; rfl

/-- What stands right ahead of a place is a text. -/
def behT (l : List Nd) : Nat → Bool
  | 0 => false
  | i + 1 => match l[i]? with | some n => n.kind == 2 | none => false

/-- Plain nodes that may be: no empty text, no two side by side. -/
def DomOK (l : List Nd) : Prop := ∀ (i : Nat) (n : Nd), l[i]? = some n → PN n ∧ (n.kind = 2 → n.text.data.toList ≠ [] ∧ behT l i = false)

theorem DomOK.nil : DomOK [] := fun i n h => by simp at h
theorem behT_append (l m : List Nd) (i : Nat) (h : i ≤ l.length) : behT (l ++ m) i = behT l i := by
  cases i with
  | zero => rfl
  | succ i =>
    show (match (l ++ m)[i]? with | some n => n.kind == 2 | none => false) = (match l[i]? with | some n => n.kind == 2 | none => false)
    rw [List.getElem?_append_left (show i < l.length by omega)]
theorem behT_end (l : List Nd) : behT l l.length = lastText l := by
  rcases List.eq_nil_or_concat l with rfl | ⟨m, x, hx⟩
  · rfl
  · subst hx
    rw [List.concat_eq_append, lastText_snoc, List.length_append, List.length_singleton]
    show (match (m ++ [x])[m.length]? with | some n => n.kind == 2 | none => false) = _
    rw [List.getElem?_append_right (Nat.le_refl _)]
    simp
theorem DomOK.snoc {l : List Nd} {n : Nd} (h : DomOK l) (hn : PN n) (h2 : n.kind = 2 → n.text.data.toList ≠ [] ∧ lastText l = false) : DomOK (l ++ [n]) := by
  intro i x hx
  by_cases hi : i < l.length
  · rw [List.getElem?_append_left hi] at hx
    rw [behT_append _ _ _ (by omega)]
    exact h i x hx
  · have hlt := (List.getElem?_eq_some_iff.1 hx).1
    rw [List.length_append, List.length_singleton] at hlt
    have : i = l.length := by omega
    subst this
    simp at hx
    subst hx
    rw [behT_append _ _ _ (Nat.le_refl _), behT_end]
    exact ⟨hn, h2⟩

/-- The texts that a list begins with, put together: how many, what they tell. -/
def runT (l : List Nd) : List Nd := l.takeWhile fun n => n.kind == 2
def catT (l : List Nd) : List UInt8 := l.flatMap fun n => n.text.data.toList
theorem catT_snoc (l : List Nd) (n : Nd) : catT (l ++ [n]) = catT l ++ n.text.data.toList := by simp [catT]
theorem catT_len : ∀ l : List Nd, (catT l).length + 10 * l.length ≤ szL l
  | [] => by simp [catT, szL]
  | n :: l => by
    have h1 := catT_len l
    have h2 := szN_eq n
    have h3 : (catT (n :: l)).length = n.text.size + (catT l).length := by simp [catT]
    rw [h3, szL_cons, List.length_cons]
    omega
theorem catT_ok : ∀ l : List Nd, (∀ n ∈ l, okT n.text.data.toList) → okT (catT l)
  | [], _ => okT_nil
  | n :: l, h => by
    have e : catT (n :: l) = n.text.data.toList ++ catT l := by simp [catT]
    rw [e]
    exact okT_append (h n (by simp)) (catT_ok l fun x hx => h x (by simp [hx]))

end Go.Proofs.YthmnnalamaponaaGreat

/- Part Is. -/
namespace Go.Proofs.YthmnnalamaponaaGreat
open Go.RowKit
set_option linter.unusedVariables false

set_option maxHeartbeats 400000 in
theorem written_any (s : ByteArray) (w : World) :
    Calls Tryz.prog 69 #[.string s] w fun e w' => e = .returned (.bool (Lib.hasPrefix s.data.toList [239, 191, 189])) ∧ w = w' := by
  go_enter Tryz.func69, Tryz.ntmps69
  go_wp2_with fail
  refine (Tryz.strings_HasPrefix s _ _).mono ?_
  rintro e w1 ⟨rfl, rfl⟩
  go_wp2
  go_ret
  exact ⟨rfl, rfl⟩

structure IsAt (w wr : World) (s : ByteArray) (l : List UInt8) (pos : Nat) : Prop where
  le : pos ≤ l.length
  is : isB l = isB (l.drop pos)
  it : wr.heap[w.heap.size]? = some (.stringIter s pos)
  bel : Below w.heap.size w wr

set_option maxHeartbeats 1000000 in
set_option maxRecDepth 100000 in
theorem is_any (s : ByteArray) (w : World) (hm : s.size ≤ 1000000) :
    Calls Tryz.prog 60 #[.string s] w fun e w' => e = .returned (.bool (isB s.data.toList)) ∧ Below w.heap.size w w' := by
  obtain ⟨l, hl⟩ : ∃ l, s.data.toList = l := ⟨_, rfl⟩
  have hsz : s.size = l.length := by rw [← hl]; simp
  rw [hl]
  have HSL := Lib.hid hl
  have HSZ := Lib.hid hsz
  clear hl hsz
  go_enter Tryz.func60, Tryz.ntmps60
  go_wp2_with fail
  go_loopw [] (fun wr => ∃ (pos : Nat), IsAt w wr s l pos) (fun wr => s.size - wr.iterPos w.heap.size)
  case atStart => exact ⟨0, by omega, by simp, World.iter_heap w s 0, (Below.refl _ w).alloc (Nat.le_refl _) _⟩
  case round =>
    obtain ⟨pos, HR⟩ := hrel
    have hit := HR.it
    have hle := HR.le
    by_cases hp : pos < l.length
    · have hps : pos < s.size := by rw [HSZ.out]; exact hp
      obtain ⟨r, d, hd⟩ : ∃ r d, dec (l.drop pos) = (r, d) := ⟨_, _, rfl⟩
      have hdec : Utf8.decode s pos = (r, d) := by rw [decode_dec, HSL.out, hd]
      have hnx : ∀ ty, (Instr.next (.pointer (some ⟨w.heap.size, 0, none⟩)) true ty).run Tryz.prog wr = .ok (.tuple #[.bool true, .int .i64 pos, .int .i32 r]) (wr.iterAt w.heap.size s (pos + d)) := fun ty => by
        rw [Lib.run_next_any_at wr w.heap.size s pos ty hit hps, hdec]
      have hw := dec_width (l := l.drop pos) (by rw [List.length_drop]; omega)
      have hst := isB_step (l := l.drop pos) (by rw [List.length_drop]; omega)
      have hat : okAt (l.drop pos) = !(decide (r = 0) || decide (r = 13) || (decide (r = 65533) && !Lib.hasPrefix (l.drop pos) [239, 191, 189])) := by unfold okAt; rw [hd]
      rw [hd] at hw hst
      rw [List.drop_drop] at hst
      rw [List.length_drop] at hw
      simp only at hw hst
      have HST := Lib.hid hst
      have HAT := Lib.hid hat
      have hit2 := Lib.iterAt_heap wr w.heap.size s pos (pos + d) hit
      have hbw2 := Lib.below_iterAt HR.bel (k := w.heap.size) (Nat.le_refl _) s (pos + d)
      have HIT2 := Lib.hid hit2
      clear hd hdec hst hit hit2 hat
      by_cases h0 : r = 0
      · subst h0
        have hf : isB l = false := by rw [HR.is, HST.out, HAT.out]; rfl
        have HF := Lib.hid hf
        clear hf
        go_wp2_with fail
        go_ret
        exact ⟨by rw [HF.out]; rfl, hbw2⟩
      by_cases h13 : r = 13
      · subst h13
        have hf : isB l = false := by rw [HR.is, HST.out, HAT.out]; rfl
        have HF := Lib.hid hf
        clear hf
        go_wp2_with fail
        go_ret
        exact ⟨by rw [HF.out]; rfl, hbw2⟩
      have B0 : ((r : Int) == 0) = false := by simp; omega
      have B13 : ((r : Int) == 13) = false := by simp; omega
      by_cases h6 : r = 65533
      · subst h6
        clear h0 h13
        obtain ⟨q, hq⟩ : ∃ q, Lib.hasPrefix (l.drop pos) [239, 191, 189] = q := ⟨_, rfl⟩
        have HQ := Lib.hid hq
        have hpos : (pos : Int) ≤ (s.size : Int) := by omega
        go_wp2_with fail
        refine (written_any _ _).mono ?_
        rintro e w2 ⟨rfl, rfl⟩
        rw [drop_extract, HSL.out, HQ.out]
        clear hq
        cases q with
        | true =>
          go_wp2_with fail
          go_roundw
          case rel =>
            refine ⟨pos + d, by omega, ?_, HIT2.out, hbw2⟩
            rw [HR.is, HST.out, HAT.out, HQ.out]
            simp
          case measure => simp only [World.iterPos, HIT2.out, HR.it]; have := HSZ.out; omega
        | false =>
          have hf : isB l = false := by rw [HR.is, HST.out, HAT.out, HQ.out]; simp
          have HF := Lib.hid hf
          clear hf
          go_wp2_with fail
          go_ret
          exact ⟨by rw [HF.out]; rfl, hbw2⟩
      · have B6 : ((r : Int) == 65533) = false := by simp; omega
        have H := Lib.hid (And.intro h0 (And.intro h13 h6))
        clear h0 h13 h6
        go_wp2_with fail
        go_roundw
        case rel =>
          refine ⟨pos + d, by omega, ?_, HIT2.out, hbw2⟩
          rw [HR.is, HST.out, HAT.out]
          simp [H.out.1, H.out.2.1, H.out.2.2]
        case measure => simp only [World.iterPos, HIT2.out, HR.it]; have := HSZ.out; omega
    · have hps : ¬ pos < s.size := by rw [HSZ.out]; exact hp
      have hnx : ∀ ty, (Instr.next (.pointer (some ⟨w.heap.size, 0, none⟩)) true ty).run Tryz.prog wr = _ := fun ty => Lib.run_next_end_at wr w.heap.size s pos ty hit hps
      have hf : isB l = true := by rw [HR.is, List.drop_of_length_le (by omega)]; rfl
      have HF := Lib.hid hf
      clear hf hit hps
      go_wp2_with fail
      go_ret
      exact ⟨by rw [HF.out]; rfl, HR.bel⟩

end Go.Proofs.YthmnnalamaponaaGreat

/- Part DNam. -/
namespace Go.Proofs.YthmnnalamaponaaGreat
open Go.RowKit
set_option linter.unusedVariables false

set_option maxHeartbeats 400000 in
theorem letterD_any (c : UInt8) (w : World) :
    Calls Tryz.prog 74 #[.int .u8 c.toNat] w fun e w' => e = .returned (.bool (smC c)) ∧ w = w' := by
  by_cases h1 : 97 ≤ c.toNat
  · by_cases h2 : c.toNat ≤ 122
    · have hs := Lib.hid (show smC c = true by unfold smC; simp [h1, h2])
      have hd : decide ((c.toNat : Int) ≤ 122) = true := by simp; omega
      go_enter Tryz.func74, Tryz.ntmps74
      go_wp2
      go_ret
      exact ⟨by rw [hs.out]; rfl, rfl⟩
    · have hs := Lib.hid (show smC c = false by unfold smC; simp [h1]; omega)
      have hd : decide ((c.toNat : Int) ≤ 122) = false := by simp; omega
      go_enter Tryz.func74, Tryz.ntmps74
      go_wp2
      go_ret
      exact ⟨by rw [hs.out]; rfl, rfl⟩
  · have hs := Lib.hid (show smC c = false by unfold smC; simp; omega)
    go_enter Tryz.func74, Tryz.ntmps74
    go_wp2
    go_ret
    exact ⟨by rw [hs.out]; rfl, rfl⟩

set_option maxHeartbeats 2000000 in
set_option maxRecDepth 100000 in
theorem namedD_any (s : ByteArray) (w : World) (hm : s.size ≤ 100000) :
    Calls Tryz.prog 67 #[.string s] w fun e w' => e = .returned (.bool (namedB s.data.toList)) ∧ w = w' := by
  obtain ⟨l, hl⟩ : ∃ l, s.data.toList = l := ⟨_, rfl⟩
  have hlz : s.size = l.length := by rw [← hl]; simp
  have hemp := empty_iff s
  rw [hl] at hemp ⊢
  by_cases h0 : s.size = 0
  · have HF := Lib.hid (show namedB l = false by rw [List.eq_nil_of_length_eq_zero (by omega : l.length = 0)]; rfl)
    have B : s.toList.isEmpty = true := by rw [hemp, List.eq_nil_of_length_eq_zero (by omega : l.length = 0)]; rfl
    clear hl hlz hemp
    go_enter Tryz.func67, Tryz.ntmps67
    go_wp2_with fail
    go_ret
    exact ⟨by rw [HF.out]; rfl, rfl⟩
  · have hp : 0 < s.size := by omega
    have B : s.toList.isEmpty = false := by
      rw [hemp, decide_eq_false]
      intro h
      rw [h] at hlz
      exact h0 hlz
    have hat := byte_at s l hl
    have hg0 := hat 0 hp
    obtain ⟨c0, hc0⟩ : ∃ c, s[0] = c := ⟨_, rfl⟩
    rw [hc0] at hg0
    have hnB : namedB l = (smC c0 && l.all namC) := by
      cases l with
      | nil => simp at hg0
      | cons a t => simp at hg0; subst hg0; rfl
    obtain ⟨q0, hq0⟩ : ∃ q, smC c0 = q := ⟨_, rfl⟩
    rw [hq0] at hnB
    have HNB := Lib.hid hnB
    have HAT := Lib.hid hat
    have HZ := Lib.hid hlz
    have HC0 := Lib.hid hc0
    have HQ0 := Lib.hid hq0
    clear hl hlz h0 hat hg0 hnB hc0 hq0 hemp
    go_enter Tryz.func67, Tryz.ntmps67
    go_wp2_with fail
    rw [HC0.out]
    refine (letterD_any c0 _).mono ?_
    rw [HQ0.out]
    rintro e w1 ⟨rfl, rfl⟩
    cases q0 with
    | false =>
      have HF := Lib.hid (show namedB l = false by rw [HNB.out]; rfl)
      go_wp2_with fail
      go_ret
      exact ⟨by rw [HF.out]; rfl, rfl⟩
    | true =>
    go_wp2_with fail
    go_loop [15] (fun y => ∃ k : Nat, y = .int .i64 k ∧ k ≤ s.size ∧ Hid ((l.take k).all namC = true)) (fun y => s.size - (intOf y).toNat)
    case atStart => exact ⟨0, rfl, by omega, Lib.hid rfl⟩
    case round =>
      obtain ⟨k, rfl, hk, HA⟩ := hrel
      by_cases hlt : k < s.size
      · have hg := HAT.out k hlt
        obtain ⟨c, hc⟩ : ∃ c, s[k] = c := ⟨_, rfl⟩
        rw [hc] at hg
        have htk := take_snoc1 hg
        have HNO := Lib.hid (fun h => all_false (p := namC) hg h)
        have HC := Lib.hid hc
        have HST := Lib.hid (show namC c = true → (l.take (k + 1)).all namC = true by intro h; rw [htk, all_snoc, HA.out, h]; rfl)
        clear hg htk hc
        by_cases hs : smC c = true
        · have HS := Lib.hid hs
          have HN := Lib.hid (HST.out (by unfold namC; rw [hs]; rfl))
          clear hs
          go_wp2_with fail
          rw [HC.out]
          refine (letterD_any c _).mono ?_
          rw [HS.out]
          rintro e w1 ⟨rfl, rfl⟩
          go_wp2_with fail
          go_round
          case rel => exact ⟨k + 1, by go_num, by omega, HN⟩
          case measure => simp [intOf]; omega
        · have hs' : smC c = false := by simpa using hs
          have HS := Lib.hid hs'
          by_cases hn : namC c = true
          · have HN := Lib.hid (HST.out hn)
            by_cases h45 : c.toNat = 45
            · have D1 : decide ((c.toNat : Int) < 48) = true := by simp; omega
              have D3 : ((c.toNat : Int) != 45) = false := by rw [h45]; rfl
              clear hs hs' hn h45
              go_wp2_with fail
              rw [HC.out]
              refine (letterD_any c _).mono ?_
              rw [HS.out]
              rintro e w1 ⟨rfl, rfl⟩
              go_wp2_with fail
              go_round
              case rel => exact ⟨k + 1, by go_num, by omega, HN⟩
              case measure => simp [intOf]; omega
            · have hd : 48 ≤ c.toNat ∧ c.toNat ≤ 57 := by
                unfold namC at hn
                rw [hs'] at hn
                simp at hn
                omega
              have D1 : decide ((c.toNat : Int) < 48) = false := by simp; omega
              have D2 : decide (57 < (c.toNat : Int)) = false := by simp; omega
              clear hs hs' hn h45 hd
              go_wp2_with fail
              rw [HC.out]
              refine (letterD_any c _).mono ?_
              rw [HS.out]
              rintro e w1 ⟨rfl, rfl⟩
              go_wp2_with fail
              go_round
              case rel => exact ⟨k + 1, by go_num, by omega, HN⟩
              case measure => simp [intOf]; omega
          · have hn' : namC c = false := by simpa using hn
            have HF := Lib.hid (show namedB l = false by rw [HNB.out, HNO.out hn']; simp)
            have hb : ¬ c.toNat = 45 ∧ (c.toNat < 48 ∨ 57 < c.toNat) := by
              unfold namC at hn'
              rw [hs'] at hn'
              simp at hn'
              omega
            have D3 : ((c.toNat : Int) != 45) = true := by simp; omega
            obtain ⟨hb1, hb2⟩ := hb
            rcases (show c.toNat < 48 ∨ (48 ≤ c.toNat ∧ 57 < c.toNat) by omega) with hb | ⟨hb, hb'⟩
            case' inl => have D1 : decide ((c.toNat : Int) < 48) = true := by simp; omega
            case' inr =>
              have D1 : decide ((c.toNat : Int) < 48) = false := by simp; omega
              have D2 : decide (57 < (c.toNat : Int)) = true := by simp; omega
            all_goals
              clear hs hs' hn hn' hb1 hb2
              go_wp2_with fail
              rw [HC.out]
              refine (letterD_any c _).mono ?_
              rw [HS.out]
              rintro e w1 ⟨rfl, rfl⟩
              go_wp2_with fail
              go_ret
              exact ⟨by rw [HF.out]; rfl, rfl⟩
      · have HF := Lib.hid (show namedB l = true by
          rw [HNB.out]
          have := HA.out
          rw [List.take_of_length_le (by have := HZ.out; omega)] at this
          rw [this]; rfl)
        go_wp2_with fail
        go_ret
        exact ⟨by rw [HF.out]; rfl, rfl⟩

/-- What an attribute's name may not have. -/
def barZ (r : Int) : Bool := (r == 9) || (r == 10) || (r == 12) || (r == 32) || (r == 47) || (r == 62) || (r == 61) || (decide (65 ≤ r) && decide (r ≤ 90))
theorem barZ_byte (c : UInt8) : barZ (c.toNat : Int) = !attC c := by
  unfold barZ attC
  have e : ∀ n : Nat, ((c.toNat : Int) == (n : Int)) = decide (c.toNat = n) := fun n => by rw [Bool.eq_iff_iff, beq_iff_eq, decide_eq_true_eq]; omega
  have h1 : decide ((65 : Int) ≤ c.toNat) = decide (65 ≤ c.toNat) := by rw [decide_eq_decide]; omega
  have h2 : decide ((c.toNat : Int) ≤ 90) = decide (c.toNat ≤ 90) := by rw [decide_eq_decide]; omega
  have e9 := e 9; have e10 := e 10; have e12 := e 12; have e32 := e 32; have e47 := e 47; have e62 := e 62; have e61 := e 61
  simp only [Int.cast_ofNat_Int] at e9 e10 e12 e32 e47 e62 e61
  rw [h1, h2, e9, e10, e12, e32, e47, e62, e61, Bool.not_not]
  generalize decide (c.toNat = 9) = a
  generalize decide (c.toNat = 10) = b
  generalize decide (c.toNat = 12) = d
  generalize decide (c.toNat = 32) = f
  generalize decide (c.toNat = 47) = g
  generalize decide (c.toNat = 62) = i
  generalize decide (c.toNat = 61) = j
  generalize (decide (65 ≤ c.toNat) && decide (c.toNat ≤ 90)) = k
  revert a b d f g i j k
  decide
theorem barZ_hi {r : Int} (h : 128 ≤ r) : barZ r = false := by
  unfold barZ
  simp
  omega
theorem attC_hi {c : UInt8} (h : 128 ≤ c.toNat) : attC c = true := by
  have := barZ_byte c
  rw [barZ_hi (by omega)] at this
  simpa using this.symm

set_option maxHeartbeats 1000000 in
theorem barredD_any (r : Int) (w : World) : Calls Tryz.prog 76 #[.int .i32 r] w fun e w' => e = .returned (.bool (barZ r)) ∧ w = w' := by
  obtain ⟨q1, e1⟩ : ∃ q, (r == 9) = q := ⟨_, rfl⟩
  obtain ⟨q2, e2⟩ : ∃ q, (r == 10) = q := ⟨_, rfl⟩
  obtain ⟨q3, e3⟩ : ∃ q, (r == 12) = q := ⟨_, rfl⟩
  obtain ⟨q4, e4⟩ : ∃ q, (r == 32) = q := ⟨_, rfl⟩
  obtain ⟨q5, e5⟩ : ∃ q, (r == 47) = q := ⟨_, rfl⟩
  obtain ⟨q6, e6⟩ : ∃ q, (r == 62) = q := ⟨_, rfl⟩
  obtain ⟨q7, e7⟩ : ∃ q, (r == 61) = q := ⟨_, rfl⟩
  obtain ⟨q8, e8⟩ : ∃ q, decide (65 ≤ r) = q := ⟨_, rfl⟩
  obtain ⟨q9, e9⟩ : ∃ q, decide (r ≤ 90) = q := ⟨_, rfl⟩
  have HF := Lib.hid (show barZ r = (q1 || q2 || q3 || q4 || q5 || q6 || q7 || (q8 && q9)) by unfold barZ; rw [e1, e2, e3, e4, e5, e6, e7, e8, e9])
  cases q1
  case' false => cases q2
  case' false.false => cases q3
  case' false.false.false => cases q4
  case' false.false.false.false => cases q5
  case' false.false.false.false.false => cases q6
  case' false.false.false.false.false.false => cases q7
  case' false.false.false.false.false.false.false => cases q8
  case' false.false.false.false.false.false.false.true => cases q9
  all_goals
    go_enter Tryz.func76, Tryz.ntmps76
    go_wp2
    go_ret
    exact ⟨by rw [HF.out]; first | rfl | (simp only [Bool.true_or, Bool.false_or]; rfl), rfl⟩

structure BarAt (w : World) (s : ByteArray) (l : List UInt8) (pos : Nat) (wr : World) : Prop where
  le : pos ≤ l.length
  it : wr.heap[w.heap.size]? = some (.stringIter s pos)
  bel : Below w.heap.size w wr
  ok : ∀ j (h : j < l.length), j < pos → attC l[j] = true
theorem all_at {p : UInt8 → Bool} {l : List UInt8} (h : ∀ j (h : j < l.length), p l[j] = true) : l.all p = true := by
  rw [List.all_eq_true]
  intro x hx
  obtain ⟨j, hj, rfl⟩ := List.mem_iff_getElem.1 hx
  exact h j hj

set_option maxHeartbeats 2000000 in
set_option maxRecDepth 100000 in
theorem indexBar_any (s : ByteArray) (w : World) (hm : s.size ≤ 1000000) :
    Calls Tryz.prog 91 #[.string s, .func (.func 76) #[] #[], .bool true] w fun e w' => ∃ x : Int, e = .returned (.int .i64 x) ∧ decide (0 ≤ x) = !(s.data.toList.all attC) ∧ Below w.heap.size w w' := by
  obtain ⟨l, hl⟩ : ∃ l, s.data.toList = l := ⟨_, rfl⟩
  have hsz : s.size = l.length := by rw [← hl]; simp
  have HSL := Lib.hid hl
  have HSZ := Lib.hid hsz
  rw [hl]
  clear hl hsz
  go_enter Tryz.func91, Tryz.ntmps91
  go_wp2_with fail
  go_loopw [] (fun wr => ∃ pos : Nat, BarAt w s l pos wr) (fun wr => s.size - wr.iterPos w.heap.size)
  case atStart => exact ⟨0, by omega, World.iter_heap w s 0, (Below.refl _ w).alloc (Nat.le_refl _) _, fun j _ h => by omega⟩
  case round =>
    obtain ⟨pos, HR⟩ := hrel
    have hle := HR.le
    have hit := HR.it
    have hbel := HR.bel
    by_cases hp : pos < l.length
    · have hps : pos < s.size := by rw [HSZ.out]; exact hp
      obtain ⟨r, d, hd⟩ : ∃ r d, dec (l.drop pos) = (r, d) := ⟨_, _, rfl⟩
      have hdec : Utf8.decode s pos = (r, d) := by rw [decode_dec, HSL.out, hd]
      have hnx : ∀ ty, (Instr.next (.pointer (some ⟨w.heap.size, 0, none⟩)) true ty).run Tryz.prog wr = .ok (.tuple #[.bool true, .int .i64 pos, .int .i32 r]) (wr.iterAt w.heap.size s (pos + d)) := fun ty => by
        rw [Lib.run_next_any_at wr w.heap.size s pos ty hit hps, hdec]
      obtain ⟨hd1, hd2, hok, hch⟩ := char_at hp hd
      have HCH := Lib.hid hch
      have HIT2 := Lib.hid (Lib.iterAt_heap wr w.heap.size s pos (pos + d) hit)
      have hbw2 := Lib.below_iterAt hbel (k := w.heap.size) (Nat.le_refl _) s (pos + d)
      have HIT := Lib.hid hit
      have HC := Lib.hid (barredD_any r (wr.iterAt w.heap.size s (pos + d)))
      obtain ⟨qb, hqb⟩ : ∃ qb, barZ r = qb := ⟨_, rfl⟩
      rw [hqb] at HC
      have HQ := Lib.hid hqb
      clear hd hdec hch hit hqb hok
      go_wp2_with fail
      refine HC.out.mono ?_
      rintro e w2 ⟨rfl, rfl⟩
      cases qb with
      | false =>
        go_wp2_with fail
        go_roundw
        case rel =>
          refine ⟨pos + d, hd2, HIT2.out, hbw2, fun j hj hjp => ?_⟩
          by_cases h : j < pos
          · exact HR.ok j hj h
          · rcases HCH.out with h1 | h1
            · obtain rfl : j = pos := by omega
              have := barZ_byte l[j]
              rw [h1.2.2, HQ.out] at this
              simpa using this.symm
            · exact attC_hi (h1.2 j hj (by omega) hjp)
        case measure => simp only [World.iterPos, HIT2.out, HIT.out]; have := HSZ.out; omega
      | true =>
        have HX := Lib.hid (show l.all attC = false by
          rcases HCH.out with h1 | h1
          · have := barZ_byte l[pos]
            rw [h1.2.2, HQ.out] at this
            exact all_false (List.getElem?_eq_getElem hp) (by simpa using this.symm)
          · have := barZ_hi (r := r) (by omega)
            rw [HQ.out] at this
            cases this)
        go_wp2_with fail
        go_ret
        exact ⟨_, rfl, by rw [HX.out]; simp, hbw2⟩
    · have hps : ¬ pos < s.size := by rw [HSZ.out]; exact hp
      have hnx : ∀ ty, (Instr.next (.pointer (some ⟨w.heap.size, 0, none⟩)) true ty).run Tryz.prog wr = _ := fun ty => Lib.run_next_end_at wr w.heap.size s pos ty hit hps
      have HX := Lib.hid (show l.all attC = true from all_at fun j h => HR.ok j h (by omega))
      clear hps hit
      go_wp2_with fail
      go_ret
      exact ⟨_, rfl, by rw [HX.out]; rfl, hbel⟩

set_option maxHeartbeats 1000000 in
theorem attrD_any (s : ByteArray) (w : World) (hm : s.size ≤ 1000000) : Calls Tryz.prog 68 #[.string s] w fun e w' => e = .returned (.bool (attrB s.data.toList)) ∧ Below w.heap.size w w' := by
  have hemp := empty_iff s
  have hc : ∀ w, Calls Tryz.prog 75 #[.string s, .func (.func 76) #[] #[]] w fun e w' => e = .returned (.bool (!(s.data.toList.all attC))) ∧ Below w.heap.size w w' := by
    intro w
    have H := Lib.hid (indexBar_any s w hm)
    obtain ⟨q, hq⟩ : ∃ q, s.data.toList.all attC = q := ⟨_, rfl⟩
    rw [hq] at H ⊢
    clear hq hemp
    go_enter Tryz.func75, Tryz.ntmps75
    go_wp2_with (go_at_call 83; go_enter Tryz.func83, Tryz.ntmps83)
    go_wp2_with fail
    refine H.out.mono ?_
    rintro e w2 ⟨x, rfl, hx, hb⟩
    go_wp2_with fail
    go_ret
    exact ⟨by first | rfl | rw [← hx], hb⟩
  have HC := Lib.hid hc
  have hi := fun w => is_any s w hm
  have HE := Lib.hid (show attrB s.data.toList = (isB s.data.toList && s.data.toList.all attC && !s.data.toList.isEmpty) from rfl)
  have hie : s.data.toList.isEmpty = decide (s.data.toList = []) := by cases s.data.toList with
    | nil => rfl
    | cons a b => simp
  rw [hie] at HE
  rw [HE.out]
  obtain ⟨q1, h1⟩ : ∃ q, decide (s.data.toList = []) = q := ⟨_, rfl⟩
  obtain ⟨q2, h2⟩ : ∃ q, s.data.toList.all attC = q := ⟨_, rfl⟩
  obtain ⟨q3, h3⟩ : ∃ q, isB s.data.toList = q := ⟨_, rfl⟩
  rw [h1] at hemp
  rw [h2] at HC
  simp only [h3] at hi
  rw [h1, h2, h3]
  have HI := Lib.hid hi
  clear hc hi HE h1 h2 h3 hie
  cases q1 with
  | true =>
    go_enter Tryz.func68, Tryz.ntmps68
    go_wp2_with fail
    go_ret
    exact ⟨by simp, Below.refl _ _⟩
  | false =>
    cases q2 with
    | false =>
      go_enter Tryz.func68, Tryz.ntmps68
      go_wp2_with fail
      refine (HC.out _).mono ?_
      rintro e w1 ⟨rfl, hb1⟩
      go_wp2_with fail
      go_ret
      exact ⟨by simp, hb1⟩
    | true =>
      go_enter Tryz.func68, Tryz.ntmps68
      go_wp2_with fail
      refine (HC.out _).mono ?_
      rintro e w1 ⟨rfl, hb1⟩
      go_wp2_with fail
      refine (HI.out _).mono ?_
      rintro e w2 ⟨rfl, hb2⟩
      go_wp2_with fail
      go_ret
      exact ⟨by simp, below_after hb1 hb2⟩

end Go.Proofs.YthmnnalamaponaaGreat

/- Part DTag. -/
namespace Go.Proofs.YthmnnalamaponaaGreat
open Go.RowKit
set_option linter.unusedVariables false

/-- Has a node the fields of its kind? -/
def shB (k : Int) (nm : ByteArray) (n1 : Nat) (t : ByteArray) (n2 : Nat) : Bool :=
  if k = 1 then t.toList.isEmpty else if k = 2 ∨ k = 3 then nm.toList.isEmpty && (n1 == 0) && (n2 == 0) else false

set_option maxHeartbeats 1000000 in
theorem shapedD_any (k : Int) (nm t : ByteArray) (A1 A2 : Option Addr) (n1 n2 c1 c2 : Nat) (w : World) :
    Calls Tryz.prog 58 #[.agg #[.int .i64 k, .string nm, .slice A1 n1 c1, .string t, .slice A2 n2 c2]] w fun e w' => e = .returned (.bool (shB k nm n1 t n2)) ∧ Below w.heap.size w w' := by
  by_cases k1 : k = 1
  · have HX := Lib.hid (show shB k nm n1 t n2 = t.toList.isEmpty by unfold shB; rw [if_pos k1])
    rw [HX.out]
    subst k1
    obtain ⟨q, hq⟩ : ∃ q, t.toList.isEmpty = q := ⟨_, rfl⟩
    rw [hq]
    clear HX
    go_enter Tryz.func58, Tryz.ntmps58
    go_wp2_with fail
    go_ret
    exact ⟨rfl, (Below.refl _ w).alloc (Nat.le_refl _) _⟩
  · have B1 : (k == 1) = false := by simp [k1]
    by_cases k23 : k = 2 ∨ k = 3
    · have HX := Lib.hid (show shB k nm n1 t n2 = (nm.toList.isEmpty && (n1 == 0) && (n2 == 0)) by unfold shB; rw [if_neg k1, if_pos k23])
      rw [HX.out]
      clear HX k1
      obtain ⟨q, hq⟩ : ∃ q, nm.toList.isEmpty = q := ⟨_, rfl⟩
      rw [hq]
      have hk2 : (k == 2) = true ∨ ((k == 2) = false ∧ (k == 3) = true) := by
        rcases k23 with rfl | rfl
        · exact .inl rfl
        · exact .inr ⟨rfl, rfl⟩
      clear k23
      cases q
      case' true =>
        rcases Nat.eq_zero_or_pos n1 with rfl | h1
        case' true.inl => rcases Nat.eq_zero_or_pos n2 with rfl | h2
        case' true.inl.inr =>
          have Z2 : (n2 == 0) = false := by rw [beq_eq_false_iff_ne]; omega
          have Z3 : ((n2 : Int) == 0) = false := by rw [beq_eq_false_iff_ne]; omega
          clear h2
        case' true.inr => have Z1 : (n1 == 0) = false := by rw [beq_eq_false_iff_ne]; omega
      all_goals
        rcases hk2 with hk2 | ⟨hk2, hk3⟩
        all_goals
          go_enter Tryz.func58, Tryz.ntmps58
          go_wp2_with fail
          go_ret
          exact ⟨by first | rfl | simp [*], (Below.refl _ w).alloc (Nat.le_refl _) _⟩
    · have B2 : (k == 2) = false := by simp; omega
      have B3 : (k == 3) = false := by simp; omega
      have HX := Lib.hid (show shB k nm n1 t n2 = false by unfold shB; rw [if_neg k1, if_neg k23])
      rw [HX.out]
      clear HX k1 k23
      go_enter Tryz.func58, Tryz.ntmps58
      go_wp2_with fail
      go_ret
      exact ⟨rfl, (Below.refl _ w).alloc (Nat.le_refl _) _⟩

/-- The first error of an element's name and attributes. -/
def tagE (n : Nd) : Int := if namedB n.name.data.toList = true then (if nameE [] n.attrs = 0 then valE n.attrs else nameE [] n.attrs) else 4
theorem make_hintN (n : Int) (w : World) : (Instr.makeMap 81 (some (.int .i64 n))).run Tryz.prog w = .ok (.map (some w.heap.size)) (w.alloc (.map #[] 0)) := by kernel_rfl

/-- The names met among attributes. -/
def metN (l : List (ByteArray × ByteArray)) (x : List UInt8) : Bool := l.any fun a => decide (x = a.1.data.toList)
theorem metN_snoc (l : List (ByteArray × ByteArray)) (a : ByteArray × ByteArray) (x : List UInt8) : metN (l ++ [a]) x = (decide (x = a.1.data.toList) || metN l x) := by
  unfold metN
  rw [List.any_append, Bool.or_comm]
  simp
theorem list_inj {a b : ByteArray} : a.data.toList = b.data.toList ↔ a = b := by
  constructor
  · intro h
    cases a
    cases b
    simp at h
    rw [h]
  · intro h; rw [h]
theorem metN_any (l : List (ByteArray × ByteArray)) (x : ByteArray) : metN l x.data.toList = (l.map (·.1)).any (fun y => decide (y = x)) := by
  unfold metN
  rw [List.any_map]
  congr 1
  funext a
  show decide _ = decide (a.1 = x)
  rw [decide_eq_decide, list_inj]
  exact ⟨Eq.symm, Eq.symm⟩

structure TgAt (w1 wr : World) (mb : Nat) (l : List (ByteArray × ByteArray)) (k : Nat) : Prop where
  le : k ≤ l.length
  is : nameE [] (l.take k) = 0
  seen : Seen wr mb k (metN (l.take k))
  bel : Below w1.heap.size w1 wr
def TgRel (w1 : World) (mb : Nat) (l : List (ByteArray × ByteArray)) (y : Value) (wr : World) : Prop := ∃ k : Nat, y = .int .i64 k ∧ TgAt w1 wr mb l k

set_option maxHeartbeats 4000000 in
set_option maxRecDepth 100000 in
theorem taggedD_any (S : Nat → Prop) (n : Nd) (va vk : Value) (w : World) (hat : AttrsAt S w n.attrs va) (hS : ∀ b, S b → b < w.heap.size) (hsz : szN n ≤ 100000) :
    Calls Tryz.prog 59 #[.agg #[.int .i64 n.kind, .string n.name, va, .string n.text, vk]] w fun e w' => e = .returned (.int .i64 (tagE n)) ∧ Below w.heap.size w w' := by
  have hne := szN_eq n
  have hln := szA_len n.attrs
  have hnz : n.name.size ≤ 100000 := by omega
  have hal : n.attrs.length ≤ 10000 := by omega
  have hat0 := hat
  obtain ⟨A, c, rfl, hc, _⟩ := hat
  have HAT := Lib.hid hat0
  clear hat0
  obtain ⟨qn, hqn⟩ : ∃ q, namedB n.name.data.toList = q := ⟨_, rfl⟩
  have hNm := fun w => namedD_any n.name w hnz
  rw [hqn] at hNm
  have HNM := Lib.hid hNm
  have HEE := Lib.hid (show tagE n = if qn = true then (if nameE [] n.attrs = 0 then valE n.attrs else nameE [] n.attrs) else 4 by unfold tagE; rw [hqn])
  have HNE := Lib.hid hne
  have hmk := fun W => make_hintN n.attrs.length W
  clear hqn hNm hne
  go_enter Tryz.func59, Tryz.ntmps59
  go_wp2_with fail
  refine (HNM.out _).mono ?_
  rintro e w0 ⟨rfl, rfl⟩
  cases qn with
  | false =>
    go_wp2_with fail
    go_ret
    exact ⟨by rw [HEE.out]; rfl, below_new _ _⟩
  | true =>
    go_wp2_with fail
    obtain ⟨w1, hw1⟩ : ∃ w1, w.alloc (.cells #[.int .i64 n.kind, .string n.name, .slice A n.attrs.length c, .string n.text, vk] 35) = w1 := ⟨_, rfl⟩
    have hz1 : w1.heap.size = w.heap.size + 1 := by rw [← hw1]; simp
    have hb1 : Below w.heap.size w w1 := by rw [← hw1]; exact below_new _ _
    have d2 : w1.cell? ⟨w.heap.size, 2, none⟩ = some (.slice A n.attrs.length c) := by rw [← hw1]; simp
    rw [hw1]
    have hat1 : AttrsAt (fun b => b < w.heap.size) w1 n.attrs (.slice A n.attrs.length c) := (HAT.out.mono hS).keep (Kept.belowB hb1 fun b h => h)
    have hse : Seen (w1.alloc (.map #[] 0)) (w.heap.size + 1) 0 (metN (n.attrs.take 0)) := by have := Seen.made w1; rw [hz1] at this; exact this
    have HSE := Lib.hid hse
    have HA1 := Lib.hid hat1
    have HD2 := Lib.hid d2
    have HB1 := Lib.hid hb1
    have HZ1 := Lib.hid hz1
    clear hw1 hat1 d2 hb1 hz1 hse
    go_loopw [21] (fun y wr => TgRel w1 (w.heap.size + 1) n.attrs y wr) (fun y _ => n.attrs.length - (intOf y).toNat)
    case atStart => exact ⟨0, rfl, by omega, rfl, HSE.out, below_new _ _⟩
    case round =>
      obtain ⟨k, rfl, HR⟩ := hrel
      have hk := HR.le
      have hbel := HR.bel
      have HSN := Lib.hid HR.seen
      have HIS := Lib.hid HR.is
      clear HR
      have hB1 := HZ1.out
      by_cases hlt : k < n.attrs.length
      · obtain ⟨b, o, c', hv, _, hSb, hcell⟩ := HA1.out.at_ (by omega)
        injection hv with hA _ hcc
        subst hA
        subst hcc
        obtain ⟨x, hx⟩ : ∃ x, n.attrs[k]? = some x := ⟨_, List.getElem?_eq_getElem hlt⟩
        have hbw : b < w1.heap.size := by omega
        have p0 : wr.cell? ⟨b, o + k * 2, none⟩ = some (.string x.1) := (hbel.cell (p := ⟨b, o + k * 2, none⟩) hbw).trans (hcell k x hx).1
        have p1 : wr.cell? ⟨b, o + k * 2 + 1, none⟩ = some (.string x.2) := (hbel.cell (p := ⟨b, o + k * 2 + 1, none⟩) hbw).trans (hcell k x hx).2
        have hxs := szA_at hx
        have hxn : x.1.size ≤ 100000 := by have := HNE.out; omega
        have hns := nameE_at hx [] HIS.out
        have hdr : n.attrs.drop k = x :: n.attrs.drop (k + 1) := by
          have := List.drop_eq_getElem_cons (l := n.attrs) (i := k) hlt
          rw [List.getElem?_eq_getElem hlt] at hx
          injection hx with hx
          rw [hx] at this
          exact this
        have htk : n.attrs.take (k + 1) = n.attrs.take k ++ [x] := by rw [List.take_add_one, hx]; rfl
        rw [hdr, nameE_one, nameE_one, List.nil_append] at hns
        obtain ⟨q, hq⟩ : ∃ q, attrB x.1.data.toList = q := ⟨_, rfl⟩
        have hai := fun w => attrD_any x.1 w (by omega)
        obtain ⟨q2, hq2⟩ : ∃ q, metN (n.attrs.take k) x.1.data.toList = q := ⟨_, rfl⟩
        rw [← metN_any, hq2] at hns
        simp only [hq] at hai
        rw [hq] at hns
        have HAI := Lib.hid hai
        have HNS := Lib.hid hns
        have HTK := Lib.hid htk
        have HQ2 := Lib.hid hq2
        have hin1 : (k : Int) < (n.attrs.length : Int) := by omega
        clear hcell hx hai hns hdr hq hq2 htk
        go_wp2_with fail
        refine (HAI.out _).mono ?_
        rintro e w4 ⟨rfl, hb4⟩
        have hB4 : Below wr.heap.size wr w4 := below_after (below_new wr _) hb4
        have d0 : w4.cell? ⟨wr.heap.size, 0, none⟩ = some (.string x.1) := (hb4.cell (p := ⟨wr.heap.size, 0, none⟩) (by simp)).trans (World.cell?_alloc_mark _ _ _ _ _)
        have hbel4 := below_after hbel hB4
        cases q with
        | false =>
          have hB2 := below_after HB1.out hbel4
          go_wp2_with fail
          go_ret
          refine ⟨?_, hB2⟩
          rw [HEE.out]
          have h4 : nameE [] n.attrs = 4 := HNS.out.1
          rw [h4]
          rfl
        | true =>
          have hs4 : Seen w4 (w.heap.size + 1) k (metN (n.attrs.take k)) := HSN.out.below hB4
          have hlk := hs4.look x.1 (by unfold maxLen; omega)
          rw [HQ2.out] at hlk
          cases q2 with
          | true =>
            have hB2 := below_after HB1.out (hbel4.alloc hbel4.size (.cells #[] 82))
            clear hs4
            go_wp2_with fail
            go_ret
            refine ⟨?_, hB2⟩
            rw [HEE.out]
            have h5 : nameE [] n.attrs = 5 := HNS.out.1
            rw [h5]
            rfl
          | false =>
            have hlt4 : wr.heap.size < w4.heap.size := by have := hb4.size; simp at this; omega
            have d0' : (w4.alloc (.cells #[] 82)).cell? ⟨wr.heap.size, 0, none⟩ = some (.string x.1) := (World.cell?_alloc_past _ _ _ hlt4).trans d0
            obtain ⟨w5, hput, hs5, hg5⟩ := (hs4.below (below_new w4 (.cells #[] 82))).store (by omega) x.1 (by unfold maxLen; omega)
            have hbel5 : Below w1.heap.size w1 w5 := (hbel4.alloc hbel4.size (.cells #[] 82)).grown hg5 (by have := hbel4.size; simp; omega) (fun g hg => by injection hg with hg; omega)
            have hs6 : Seen w5 (w.heap.size + 1) (k + 1) (metN (n.attrs.take (k + 1))) := hs5.congr fun l => by rw [HTK.out, metN_snoc]
            have HN := Lib.hid (show nameE [] (n.attrs.take (k + 1)) = 0 from HNS.out.2)
            have HS6 := Lib.hid hs6
            have HB5 := Lib.hid hbel5
            clear hs4 hs5 hs6 hg5 hbel5 hB4 hb4 hbel4
            go_wp2_with fail
            go_roundw
            case rel => exact ⟨k + 1, by go_num, by omega, HN.out, HS6.out, HB5.out⟩
            case measure => simp [intOf]; omega
      · have hall : nameE [] n.attrs = 0 := by
          have := HIS.out
          rwa [List.take_of_length_le (by omega)] at this
        have HAL := Lib.hid (show tagE n = valE n.attrs by rw [HEE.out, hall]; rfl)
        have g2 : wr.cell? ⟨w.heap.size, 2, none⟩ = some (.slice A n.attrs.length c) := (hbel.cell (p := ⟨w.heap.size, 2, none⟩) (by show w.heap.size < _; omega)).trans HD2.out
        clear hall
        go_wp2_with fail
        obtain ⟨wo, rfl⟩ : ∃ wo : World, wo = wr := ⟨_, rfl⟩
        go_loopw [45] (fun y wr => ElValRel w1 n.attrs y wr) (fun y _ => n.attrs.length - (intOf y).toNat)
        case atStart => exact ⟨0, rfl, by omega, by simp, hbel⟩
        case round =>
          obtain ⟨j, rfl, HJ⟩ := hrel
          have hj := HJ.le
          have hbj := HJ.bel
          have HJS := Lib.hid HJ.is
          clear HJ g2
          by_cases hjl : j < n.attrs.length
          · obtain ⟨b, o, c', hv, _, hSb, hcell⟩ := HA1.out.at_ (by omega)
            injection hv with hA _ hcc
            subst hA
            subst hcc
            obtain ⟨z, hz⟩ : ∃ z, n.attrs[j]? = some z := ⟨_, List.getElem?_eq_getElem hjl⟩
            have hbw : b < w1.heap.size := by omega
            have p0 : wr.cell? ⟨b, o + j * 2, none⟩ = some (.string z.1) := (hbj.cell (p := ⟨b, o + j * 2, none⟩) hbw).trans (hcell j z hz).1
            have p1 : wr.cell? ⟨b, o + j * 2 + 1, none⟩ = some (.string z.2) := (hbj.cell (p := ⟨b, o + j * 2 + 1, none⟩) hbw).trans (hcell j z hz).2
            have hzs := szA_at hz
            have hzn : z.2.size ≤ 1000000 := by have := HNE.out; omega
            obtain ⟨q, hq⟩ : ∃ q, isB z.2.data.toList = q := ⟨_, rfl⟩
            have hai := fun w => is_any z.2 w hzn
            simp only [hq] at hai
            have HAI := Lib.hid hai
            have HZ := Lib.hid hz
            have HQ := Lib.hid hq
            have hin1 : (j : Int) < (n.attrs.length : Int) := by omega
            clear hcell hz hai hq
            cases q with
            | false =>
              have H2 := Lib.hid (valE_false HZ.out HQ.out)
              go_wp2_with fail
              refine (HAI.out _).mono ?_
              rintro e w2 ⟨rfl, hb2⟩
              have hB2 := below_after HB1.out (below_after hbj (below_after (below_new _ _) hb2))
              go_wp2_with fail
              go_ret
              refine ⟨?_, hB2⟩
              rw [HAL.out, H2.out]
              rfl
            | true =>
              have HN := Lib.hid (show ∀ b ∈ n.attrs.take (j + 1), isB b.2.data.toList = true by
                intro y hy
                rw [List.take_add_one, HZ.out] at hy
                rcases List.mem_append.1 hy with hy | hy
                · exact HJS.out y hy
                · simp at hy
                  subst hy
                  exact HQ.out)
              go_wp2_with fail
              refine (HAI.out _).mono ?_
              rintro e w2 ⟨rfl, hb2⟩
              have hb22 := below_after hbj (below_after (below_new _ _) hb2)
              go_wp2_with fail
              go_roundw
              case rel => exact ⟨j + 1, by go_num, by omega, HN.out, hb22⟩
              case measure => simp [intOf]; omega
          · have H0 := Lib.hid (show valE n.attrs = 0 by
              unfold valE
              rw [if_pos]
              rw [List.all_eq_true]
              intro a ha
              have := HJS.out
              rw [List.take_of_length_le (by omega)] at this
              exact this a ha)
            have hB2 := below_after HB1.out hbj
            go_wp2_with fail
            go_ret
            refine ⟨?_, hB2⟩
            rw [HAL.out, H0.out]
            rfl

end Go.Proofs.YthmnnalamaponaaGreat
