/- Parts of the proof, in build order: Par8 TkPM TkA. -/
import Derived.Test.YthmnnalamaponaaGreatK01
import Derived.Test.YthmnnalamaponaaGreatK10
import Derived.Test.YthmnnalamaponaaGreatK11
import Derived.Test.YthmnnalamaponaaGreatK06
import Derived.BigQuiet
import Derived.Test.YthmnnalamaponaaGreatK02
import Derived.Lib.IndexMore
import Derived.Test.YthmnnalamaponaaGreatK05
import Derived.Deep.QuietTactic

/- Part Par8. -/
namespace Go.Proofs.YthmnnalamaponaaGreat
open Go.RowKit
set_option linter.unusedVariables false

/-- New nodes. -/
def TreeRet (l : List Nd) (w : World) (e : Ending) (w' : World) : Prop := ∃ v', e = .returned v' ∧ Tree (· < w'.heap.size) w' l v' ∧ Below w.heap.size w w'
def KeepsSaid : Prop := ∀ (l : List Nd) (S : Nat → Prop) (v : Value) (w : World), Glob w → Tree S w l v → (∀ b, S b → b < w.heap.size) → GoodL l → szL l ≤ 100000 →
  Calls Tryz.prog 8 #[v] w fun e w' => e = .returned (.bool (stL l)) ∧ Below w.heap.size w w'
def AgainSaid : Prop := ∀ (l : List Nd) (S : Nat → Prop) (v : Value) (w : World), Glob w → Tree S w l v → (∀ b, S b → b < w.heap.size) → GoodL l → szL l ≤ 100000 →
  Calls Tryz.prog 11 #[v] w (TreeRet (parseB (txtL false l)) w)
def TextSaid : Prop := ∀ (s : ByteArray) (w : World), Glob w → isB s.data.toList = true → s.size ≤ 1000000 → Calls Tryz.prog 16 #[.string s] w (TreeRet (parseB s.data.toList) w)
def BytesSaid : Prop := ∀ (A : Option Addr) (n c : Nat) (l : List UInt8) (w : World), Glob w → Sits w w.heap.size A (Lib.byteCells l) → n = l.length → n ≤ c → n ≤ 1000 →
  Calls Tryz.prog 13 #[.slice A n c] w (TreeRet (parseB (right l)) w)

def l8S : List UInt8 := [60, 112, 62, 97, 60, 100, 105, 118, 62, 98]
def l8N : List Nd := [.mk 1 (tB [112]) [] (tB []) [.mk 2 (tB []) [] (tB [97]) []], .mk 1 (tB [100, 105, 118]) [] (tB []) [.mk 2 (tB []) [] (tB [98]) []]]
theorem l8_toks : tokB l8S = [tkB [112] [], tkC [97], tkB [100, 105, 118] [], tkC [98]] := by
  have hat1 : attsOf [] ((112 :: 62 :: [97, 60, 100, 105, 118, 62, 98]).dropWhile tagC) = some ([], [97, 60, 100, 105, 118, 62, 98]) := by
    show attsOf [] (62 :: [97, 60, 100, 105, 118, 62, 98]) = _
    rw [attsOf_end]
  have hat2 : attsOf [] ((100 :: 105 :: 118 :: 62 :: [98]).dropWhile tagC) = some ([], [98]) := by
    show attsOf [] (62 :: [98]) = _
    rw [attsOf_end]
  have htg1 : tagB l8S = (some (tkB [112] []), [97, 60, 100, 105, 118, 62, 98]) := by
    unfold l8S
    rw [tagB_letter (by decide), hat1]
    rfl
  have htg2 : tagB [60, 100, 105, 118, 62, 98] = (some (tkB [100, 105, 118] []), [98]) := by
    rw [tagB_letter (by decide), hat2]
    rfl
  have r1 : rawTk (tkB [112] []) = false := by
    unfold rawTk tkB
    rw [tB_list]
    rfl
  have r2 : rawTk (tkB [100, 105, 118] []) = false := by
    unfold rawTk tkB
    rw [tB_list]
    rfl
  rw [tokB_tag (k := tkB [112] []) rfl (by rw [htg1]) r1, htg1, tokB_chars (by rfl)]
  have h4 : tokB [60, 100, 105, 118, 62, 98] = [tkB [100, 105, 118] [], tkC [98]] := by
    rw [tokB_tag (k := tkB [100, 105, 118] []) rfl (by rw [htg2]) r2, htg2, tokB_chars (by rfl)]
    show _ :: tkC (decB [98]) :: tokB [] = _
    rw [tokB_nil]
    rfl
  show _ :: tkC (decB [97]) :: tokB [60, 100, 105, 118, 62, 98] = _
  rw [h4]
  rfl
theorem l8_right : right l8S = l8S := by decide +kernel
theorem l8_parse : parseB (right l8S) = l8N := by
  rw [l8_right]
  unfold parseB
  rw [l8_toks]
  kernel_rfl
theorem l8_ok : GoodL l8N ∧ stL l8N = true := by
  have h := parse_ok (l := right l8S) (by rw [l8_right]; decide +kernel)
  rw [l8_parse] at h
  exact h

end Go.Proofs.YthmnnalamaponaaGreat

/- Part TkPM. -/
namespace Go.Proofs.YthmnnalamaponaaGreat
set_option linter.unusedVariables false

/-! ### characters and bytes -/
theorem dec_lo {l : List UInt8} (h : byt l 0 < 128) : dec l = (byt l 0, 1) := by unfold dec; rw [if_pos h]
theorem cont_hi {l : List UInt8} {k : Nat} (h : cont l k = true) : 128 ≤ byt l k := by
  unfold cont at h
  simp at h
  omega
theorem dec_hi {l : List UInt8} (h : ¬ byt l 0 < 128) : 128 ≤ (dec l).1 ∧ ∀ j, j < (dec l).2 → 128 ≤ byt l j := by
  have h0 : 128 ≤ byt l 0 := by omega
  have one : ∀ j, j < 1 → 128 ≤ byt l j := fun j hj => by
    obtain rfl : j = 0 := by omega
    exact h0
  unfold dec
  rw [if_neg h]
  split
  · rename_i h1
    have c1 := cont_hi h1.2
    split
    · refine ⟨by assumption, fun j hj => ?_⟩
      rcases (show j = 0 ∨ j = 1 by simp at hj; omega) with rfl | rfl
      · exact h0
      · exact c1
    · exact ⟨by decide, one⟩
  split
  · rename_i h1
    have c1 := cont_hi h1.2.1
    have c2 := cont_hi h1.2.2
    split
    · rename_i h2
      refine ⟨by simp; omega, fun j hj => ?_⟩
      rcases (show j = 0 ∨ j = 1 ∨ j = 2 by simp at hj; omega) with rfl | rfl | rfl
      · exact h0
      · exact c1
      · exact c2
    · exact ⟨by decide, one⟩
  split
  · rename_i h1
    have c1 := cont_hi h1.2.1
    have c2 := cont_hi h1.2.2.1
    have c3 := cont_hi h1.2.2.2
    split
    · rename_i h2
      refine ⟨by simp; omega, fun j hj => ?_⟩
      rcases (show j = 0 ∨ j = 1 ∨ j = 2 ∨ j = 3 by simp at hj; omega) with rfl | rfl | rfl | rfl
      · exact h0
      · exact c1
      · exact c2
      · exact c3
    · exact ⟨by decide, one⟩
  exact ⟨by decide, one⟩
theorem byt_drop {l : List UInt8} {p : Nat} (j : Nat) : byt (l.drop p) j = byt l (p + j) := by
  unfold byt
  rw [List.getD_eq_getElem?_getD, List.getD_eq_getElem?_getD, List.getElem?_drop]
theorem byt_get {l : List UInt8} {k : Nat} (h : k < l.length) : byt l k = l[k].toNat := by
  unfold byt
  rw [List.getD_eq_getElem?_getD, List.getElem?_eq_getElem h]
  rfl

/-- A character at place p: a byte of its own, or some that are 128 or more. -/
theorem char_at {l : List UInt8} {p : Nat} {r d : Nat} (hp : p < l.length) (hd : dec (l.drop p) = (r, d)) :
    1 ≤ d ∧ p + d ≤ l.length ∧ okR r ∧ ((r < 128 ∧ d = 1 ∧ l[p].toNat = r) ∨ (128 ≤ r ∧ ∀ j (h : j < l.length), p ≤ j → j < p + d → 128 ≤ l[j].toNat)) := by
  have hw := dec_width (l := l.drop p) (by rw [List.length_drop]; omega)
  have ho := dec_ok (l.drop p)
  rw [hd] at hw ho
  rw [List.length_drop] at hw
  simp only at hw ho
  refine ⟨hw.1, by omega, ho, ?_⟩
  by_cases h : byt (l.drop p) 0 < 128
  · have e := dec_lo h
    rw [hd] at e
    injection e with e1 e2
    subst e1
    rw [byt_drop, Nat.add_zero, byt_get hp] at h ⊢
    exact .inl ⟨h, e2, rfl⟩
  · have e := dec_hi h
    rw [hd] at e
    refine .inr ⟨e.1, fun j hj h1 h2 => ?_⟩
    have := e.2 (j - p) (by show j - p < d; omega)
    rw [byt_drop, show p + (j - p) = j by omega, byt_get hj] at this
    exact this

/-! ### as long as .. -/
theorem span_at {p : UInt8 → Bool} : ∀ (l : List UInt8) (k : Nat), k ≤ l.length → (∀ j (h : j < l.length), j < k → p l[j] = true) → (∀ (h : k < l.length), p l[k] = false) → l.takeWhile p = l.take k ∧ l.dropWhile p = l.drop k
  | [], k, hk, _, _ => by simp
  | c :: r, 0, _, _, h => by
    have := h (by simp)
    rw [List.getElem_cons_zero] at this
    rw [List.takeWhile_cons, List.dropWhile_cons, if_neg (by rw [this]; decide), if_neg (by rw [this]; decide)]
    exact ⟨rfl, rfl⟩
  | c :: r, k + 1, hk, hj, h => by
    have h0 := hj 0 (by simp) (by omega)
    rw [List.getElem_cons_zero] at h0
    have := span_at r k (by simpa using hk) (fun j hjl hjk => by have := hj (j + 1) (by simp; omega) (by omega); rwa [List.getElem_cons_succ] at this) (fun hk => by have := h (by simp; omega); rwa [List.getElem_cons_succ] at this)
    rw [List.takeWhile_cons, List.dropWhile_cons, if_pos h0, if_pos h0, this.1, this.2]
    exact ⟨rfl, rfl⟩
theorem charsB_at : ∀ (l : List UInt8) (k : Nat), k ≤ l.length → (∀ j, j < k → startsB (l.drop j) = false) → (k < l.length → startsB (l.drop k) = true) → charsB l = (l.take k, l.drop k)
  | [], k, _, _, _ => by simp [charsB]
  | c :: r, 0, _, _, h => by
    have : startsB (c :: r) = true := h (by simp)
    rw [charsB_cons, if_pos this]
    rfl
  | c :: r, k + 1, hk, hj, h => by
    have h0 : startsB (c :: r) = false := hj 0 (by omega)
    have := charsB_at r k (by simpa using hk) (fun j hjk => hj (j + 1) (by omega)) (fun hk => h (by simpa using hk))
    rw [charsB_cons, if_neg (by rw [h0]; decide), this]
    rfl
theorem cutEnd_k (nm : List UInt8) : ∀ (l : List UInt8) (k : Nat), k ≤ l.length → (∀ j, j < k → endAt nm (l.drop j) = false) → (k < l.length → endAt nm (l.drop k) = true) → cutEnd nm l = (l.take k, l.drop k)
  | [], k, _, _, _ => by simp [cutEnd]
  | c :: r, 0, _, _, h => by
    have : endAt nm (c :: r) = true := h (by simp)
    rw [cutEnd_cons, if_pos this]
    rfl
  | c :: r, k + 1, hk, hj, h => by
    have h0 : endAt nm (c :: r) = false := hj 0 (by omega)
    have := cutEnd_k nm r k (by simpa using hk) (fun j hjk => hj (j + 1) (by omega)) (fun hk => h (by simpa using hk))
    rw [cutEnd_cons, if_neg (by rw [h0]; decide), this]
    rfl
theorem starts_at {l : List UInt8} {j : Nat} (hj : j < l.length) (h : l[j].toNat ≠ 60) : startsB (l.drop j) = false := by
  rw [List.drop_eq_getElem_cons hj]
  cases l.drop (j + 1) with
  | nil => rfl
  | cons d r =>
    have : decide (l[j] = 60) = false := by
      rw [decide_eq_false_iff_not]
      intro e
      rw [e] at h
      exact h rfl
    simp only [startsB, this, Bool.false_and]
theorem lowB_60 {c : UInt8} (h : lowB c = 60) : c = 60 := by
  have := lowB_toNat c
  rw [h] at this
  apply UInt8.toNat_inj.1
  show c.toNat = 60
  have h60 : (60 : UInt8).toNat = 60 := rfl
  rw [h60] at this
  split at this <;> omega
theorem endAt_ne {nm l : List UInt8} {j : Nat} (hj : j < l.length) (h : l[j].toNat ≠ 60) : endAt nm (l.drop j) = false := by
  rw [List.drop_eq_getElem_cons hj]
  unfold endAt
  rw [Bool.and_eq_false_iff]
  refine .inl ?_
  rw [decide_eq_false_iff_not, show 2 + nm.length = (1 + nm.length) + 1 by omega, List.take_succ_cons, List.map_cons]
  intro e
  injection e with e1 e2
  have := lowB_60 e1
  rw [this] at h
  exact h rfl

/-! ### strings.Cut -/
theorem cut_cons (b : UInt8) (l sep : List UInt8) : Lib.cut (b :: l) sep = if sep.isPrefixOf (b :: l) = true then ([], (b :: l).drop sep.length, true) else (b :: (Lib.cut l sep).1, (Lib.cut l sep).2.1, (Lib.cut l sep).2.2) := by
  have e : Lib.index (b :: l) sep = if sep.isPrefixOf (b :: l) = true then 0 else if Lib.index l sep == -1 then -1 else Lib.index l sep + 1 := rfl
  have hge := Lib.index_ge l sep
  unfold Lib.cut
  rw [e]
  by_cases hp : sep.isPrefixOf (b :: l) = true
  · rw [if_pos hp, if_pos hp, if_pos (by omega)]
    simp
  · rw [if_neg hp, if_neg hp]
    by_cases hi : Lib.index l sep = -1
    · rw [hi]
      simp
    · have : (Lib.index l sep == -1) = false := by rw [beq_eq_false_iff_ne]; exact hi
      rw [this]
      have h0 : 0 ≤ Lib.index l sep := by omega
      obtain ⟨n, hn⟩ := Int.eq_ofNat_of_zero_le h0
      rw [hn]
      have h1 : ((n : Int) + 1).toNat = n + 1 := by omega
      rw [if_neg (show ¬ (false = true) by decide), if_pos (by omega), if_pos (by omega), h1, List.take_succ_cons, show n + 1 + sep.length = (n + sep.length) + 1 by omega, List.drop_succ_cons]
      simp
theorem cut_nil {sep : List UInt8} (h : sep ≠ []) : Lib.cut [] sep = ([], [], false) := by
  unfold Lib.cut Lib.index
  cases sep with
  | nil => exact absurd rfl h
  | cons a r => rfl
theorem cut_three : ∀ l : List UInt8, (Lib.cut l [45, 45, 62]).1 = (upTo3 l).1 ∧ (Lib.cut l [45, 45, 62]).2.1 = (upTo3 l).2
  | [] => by rw [cut_nil (by simp)]; exact ⟨rfl, rfl⟩
  | c :: r => by
    have ih := cut_three r
    rw [cut_cons, upTo3_cons]
    by_cases h : Lib.hasPrefix (c :: r) [45, 45, 62] = true
    · have h' : ([45, 45, 62] : List UInt8).isPrefixOf (c :: r) = true := h
      rw [if_pos h, if_pos h']
      exact ⟨rfl, rfl⟩
    · have h' : ¬ ([45, 45, 62] : List UInt8).isPrefixOf (c :: r) = true := h
      rw [if_neg h, if_neg h']
      exact ⟨by show c :: _ = c :: _; rw [ih.1], ih.2⟩
theorem cut_gt : ∀ l : List UInt8, (Lib.cut l [62]).1 = (upTo1 l).1 ∧ (Lib.cut l [62]).2.1 = (upTo1 l).2
  | [] => by rw [cut_nil (by simp)]; exact ⟨rfl, rfl⟩
  | c :: r => by
    have ih := cut_gt r
    have e : ([62] : List UInt8).isPrefixOf (c :: r) = (62 == c) := by
      show ((62 == c) && _) = _
      simp
    unfold upTo1 at ih ⊢
    rw [cut_cons, e, List.takeWhile_cons, List.dropWhile_cons]
    by_cases h : c = 62
    · subst h
      rw [if_pos (by rfl), if_neg (by decide), if_neg (by decide)]
      exact ⟨rfl, rfl⟩
    · have h1 : (62 == c) = false := by rw [beq_eq_false_iff_ne]; exact fun e => h e.symm
      have h2 : neC 62 c = true := by simp [neC, h]
      rw [h1, h2, if_neg (by decide), if_pos rfl, if_pos rfl]
      exact ⟨by show c :: _ = c :: _; rw [ih.1], ih.2⟩

end Go.Proofs.YthmnnalamaponaaGreat

/- Part TkA. -/
namespace Go.Proofs.YthmnnalamaponaaGreat
open Go.RowKit
set_option linter.unusedVariables false

/-- A letter; a character of a tag's name. -/
def letZ (r : Int) : Bool := (decide (65 ≤ r) && decide (r ≤ 90)) || (decide (97 ≤ r) && decide (r ≤ 122))
def tagZ (r : Int) : Bool := letZ r || (decide (48 ≤ r) && decide (r ≤ 57)) || (r == 45)
theorem letZ_byte (c : UInt8) : letZ (c.toNat : Int) = letC c := by
  unfold letZ letC
  have h1 : decide ((65 : Int) ≤ c.toNat) = decide (65 ≤ c.toNat) := by rw [decide_eq_decide]; omega
  have h2 : decide ((c.toNat : Int) ≤ 90) = decide (c.toNat ≤ 90) := by rw [decide_eq_decide]; omega
  have h3 : decide ((97 : Int) ≤ c.toNat) = decide (97 ≤ c.toNat) := by rw [decide_eq_decide]; omega
  have h4 : decide ((c.toNat : Int) ≤ 122) = decide (c.toNat ≤ 122) := by rw [decide_eq_decide]; omega
  rw [h1, h2, h3, h4]
theorem tagZ_byte (c : UInt8) : tagZ (c.toNat : Int) = tagC c := by
  unfold tagZ tagC
  have h1 : decide ((48 : Int) ≤ c.toNat) = decide (48 ≤ c.toNat) := by rw [decide_eq_decide]; omega
  have h2 : decide ((c.toNat : Int) ≤ 57) = decide (c.toNat ≤ 57) := by rw [decide_eq_decide]; omega
  have h3 : ((c.toNat : Int) == 45) = decide (c.toNat = 45) := by rw [Bool.eq_iff_iff, beq_iff_eq, decide_eq_true_eq]; omega
  rw [letZ_byte, h1, h2, h3]
theorem tagZ_hi {r : Int} (h : 128 ≤ r) : tagZ r = false := by
  unfold tagZ letZ
  simp
  omega
theorem tagC_hi {c : UInt8} (h : 128 ≤ c.toNat) : tagC c = false := by rw [← tagZ_byte]; exact tagZ_hi (by omega)

set_option maxHeartbeats 400000 in
theorem letter_any (r : Int) (w : World) : Calls Tryz.prog 128 #[.int .i32 r] w fun e w' => e = .returned (.bool (letZ r)) ∧ w = w' := by
  by_cases h1 : 65 ≤ r
  case' pos => by_cases h2 : r ≤ 90
  case' neg => have h2 : True := trivial
  all_goals
    by_cases h3 : 97 ≤ r
    case' pos => by_cases h4 : r ≤ 122
  all_goals
    go_enter Tryz.func128, Tryz.ntmps128
    go_wp2
    go_ret
    exact ⟨by simp [letZ, *] <;> omega, rfl⟩

set_option maxHeartbeats 400000 in
theorem named_any (r : Int) (w : World) : Calls Tryz.prog 139 #[.int .i32 r] w fun e w' => e = .returned (.bool (tagZ r)) ∧ w = w' := by
  have H := Lib.hid (letter_any r w)
  have HT := Lib.hid (show tagZ r = (letZ r || (decide (48 ≤ r) && decide (r ≤ 57)) || (r == 45)) from rfl)
  obtain ⟨q, hq⟩ : ∃ q, letZ r = q := ⟨_, rfl⟩
  rw [hq] at H HT
  rw [HT.out]
  clear hq HT
  cases q
  case' false =>
    by_cases h1 : 48 ≤ r
    case' pos => by_cases h2 : r ≤ 57
  all_goals
    go_enter Tryz.func139, Tryz.ntmps139
    go_wp2_with fail
    refine H.out.mono ?_
    rintro e w1 ⟨rfl, rfl⟩
    go_wp2_with fail
    go_ret
    exact ⟨by simp [*] <;> omega, rfl⟩

theorem starts_at0 {s : ByteArray} {l : List UInt8} (hl : s.data.toList = l) (k : Nat) (h : k < s.size) : l[k]? = some s[k] := by
  rw [← hl, List.getElem?_eq_getElem (by simpa using h)]
  rfl

set_option maxHeartbeats 1000000 in
theorem starts_any (s : ByteArray) (w : World) (hm : s.size ≤ maxLen) : Calls Tryz.prog 127 #[.string s] w fun e w' => e = .returned (.bool (startsB s.data.toList)) ∧ w = w' := by
  obtain ⟨l, hl⟩ : ∃ l, s.data.toList = l := ⟨_, rfl⟩
  have hsz : s.size = l.length := by rw [← hl]; simp
  have hat := starts_at0 hl
  unfold maxLen at hm
  rw [hl]
  rcases l with _ | ⟨a, _ | ⟨c, r⟩⟩
  · have hs2 : s.size < 2 := by rw [hsz]; simp
    have HX := Lib.hid (show startsB [] = false from rfl)
    clear hsz hat hl
    go_enter Tryz.func127, Tryz.ntmps127
    go_wp2
    go_ret
    exact ⟨by rw [HX.out]; rfl, rfl⟩
  · have hs2 : s.size < 2 := by rw [hsz]; simp
    have HX := Lib.hid (show startsB [a] = false from rfl)
    clear hsz hat hl
    go_enter Tryz.func127, Tryz.ntmps127
    go_wp2
    go_ret
    exact ⟨by rw [HX.out]; rfl, rfl⟩
  · have hs2 : 2 ≤ s.size := by rw [hsz]; simp
    have g0 : (s[0]'(Nat.lt_of_lt_of_le (by decide) hs2)).toNat = a.toNat := by
      have e := hat 0 (by omega)
      injection e with e
      rw [e]
    have g1 : (s[1]'(Nat.lt_of_lt_of_le (by decide) hs2)).toNat = c.toNat := by
      have e := hat 1 (by omega)
      injection e with e
      rw [e]
    have HL := Lib.hid (letter_any (c.toNat : Int) w)
    rw [letZ_byte] at HL
    have HX := Lib.hid (show startsB (a :: c :: r) = (decide (a.toNat = 60) && (letC c || decide (c.toNat = 33) || decide (c.toNat = 63) || decide (c.toNat = 47))) by
      have e : ∀ (x y : UInt8), decide (x = y) = decide (x.toNat = y.toNat) := fun x y => by rw [decide_eq_decide, UInt8.toNat_inj]
      show (decide (a = 60) && (letC c || decide (c = 33) || decide (c = 63) || decide (c = 47))) = _
      rw [e, e, e, e]
      rfl)
    rw [HX.out]
    clear hsz hat hl HX
    obtain ⟨q, hq⟩ : ∃ q, letC c = q := ⟨_, rfl⟩
    rw [hq] at HL ⊢
    clear hq
    have hcb := c.toNat_lt
    have e1 : decide (a.toNat = 60) = ((a.toNat : Int) == 60) := by rw [Bool.eq_iff_iff, beq_iff_eq, decide_eq_true_eq]; omega
    have e2 : decide (c.toNat = 47) = ((c.toNat : Int) == 47) := by rw [Bool.eq_iff_iff, beq_iff_eq, decide_eq_true_eq]; omega
    have e3 : decide (c.toNat = 33) = ((c.toNat : Int) == 33) := by rw [Bool.eq_iff_iff, beq_iff_eq, decide_eq_true_eq]; omega
    have e4 : decide (c.toNat = 63) = ((c.toNat : Int) == 63) := by rw [Bool.eq_iff_iff, beq_iff_eq, decide_eq_true_eq]; omega
    rw [e1, e2, e3, e4]
    clear e1 e2 e3 e4
    have h0 : ((s[0]'(Nat.lt_of_lt_of_le (by decide) hs2)).toNat : Int) = a.toNat := by rw [g0]
    have h1 : ((s[1]'(Nat.lt_of_lt_of_le (by decide) hs2)).toNat : Int) = c.toNat := by rw [g1]
    have b1 : (0 : Int) ≤ c.toNat := by omega
    have b2 : (c.toNat : Int) < 256 := by omega
    clear hcb g0 g1
    generalize (a.toNat : Int) = x at *
    generalize (c.toNat : Int) = y at *
    cases B0 : (x == 60) with
    | false =>
      have B0' : (x != 60) = true := by simp [bne, B0]
      go_enter Tryz.func127, Tryz.ntmps127
      go_wp2
      go_ret
      exact ⟨rfl, rfl⟩
    | true =>
      have B0' : (x != 60) = false := by simp [bne, B0]
      cases B1 : (y == 47)
      case' false =>
        cases B2 : (y == 33)
        case' false => cases B3 : (y == 63)
      all_goals
        go_enter Tryz.func127, Tryz.ntmps127
        go_wp2_with (refine HL.out.mono ?_; rintro e w1 ⟨rfl, rfl⟩)
        go_ret
        exact ⟨by simp <;> rfl, rfl⟩

end Go.Proofs.YthmnnalamaponaaGreat
