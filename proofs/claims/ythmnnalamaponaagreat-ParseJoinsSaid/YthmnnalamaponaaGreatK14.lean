/- Parts of the proof, in build order: TkB TkC TkD Fold Prefix TkE TkF TkT RefW. -/
import Derived.Test.YthmnnalamaponaaGreatK12
import Derived.Test.YthmnnalamaponaaGreatK13
import Derived.Lib.Small
import Derived.Test.YthmnnalamaponaaGreatK05
import Derived.Laws.Runes
import Derived.WalkMore
import Derived.Test.YthmnnalamaponaaGreatK06
import Derived.Test.YthmnnalamaponaaGreatK01
import Derived.Test.YthmnnalamaponaaGreatK02
import Derived.WalkKit
import Derived.WalkSpells
import Derived.WalkLawsBesides
import Derived.Lib.Hide
import Derived.Laws.IdiomStrings
import Derived.Deep.QuietTactic
import Derived.BigQuiet
import Derived.BigCall

/- Part TkB. -/
namespace Go.Proofs.YthmnnalamaponaaGreat
open Go.RowKit
set_option linter.unusedVariables false

theorem enc_hiB {r : Int} (h : 128 ≤ r) : ∃ t : ByteArray, Utf8.encode r = t ∧ 2 ≤ t.size ∧ t.size ≤ 4 ∧ ∀ h : t.size - 1 < t.size, 128 ≤ (t[t.size - 1]'h).toNat := by
  refine ⟨_, rfl, ?_⟩
  unfold Utf8.encode
  obtain ⟨c, hc⟩ : ∃ c, (if Utf8.valid r = true then r.toNat else Utf8.runeError) = c := ⟨_, rfl⟩
  have h0 : 128 ≤ c := by
    rw [← hc]
    split
    · omega
    · decide
  rw [hc]
  have hb : ∀ n : Nat, n < 256 → (UInt8.ofNat n).toNat = n := fun n hn => by simp; omega
  show 2 ≤ (if c < 0x80 then _ else _ : ByteArray).size ∧ _
  simp only [if_neg (show ¬ c < 0x80 by omega)]
  by_cases h1 : c < 0x800
  · simp only [if_pos h1]
    refine ⟨(by decide : 2 ≤ 2), (by decide : 2 ≤ 4), fun _ => ?_⟩
    show 128 ≤ (UInt8.ofNat (128 + c % 64)).toNat
    rw [hb _ (by omega)]
    omega
  by_cases h2 : c < 0x10000
  · simp only [if_neg h1, if_pos h2]
    refine ⟨(by decide : 2 ≤ 3), (by decide : 3 ≤ 4), fun _ => ?_⟩
    show 128 ≤ (UInt8.ofNat (128 + c % 64)).toNat
    rw [hb _ (by omega)]
    omega
  · simp only [if_neg h1, if_neg h2]
    refine ⟨(by decide : 2 ≤ 4), (by decide : 4 ≤ 4), fun _ => ?_⟩
    show 128 ≤ (UInt8.ofNat (128 + c % 64)).toNat
    rw [hb _ (by omega)]
    omega

theorem conv_rune (w : World) (r : Int) : (convert 21 9 (.int .i32 r)).run Tryz.prog w = .ok (.string (Utf8.encode r)) w := by kernel_rfl
theorem valid_ok {r : Int} (h : okR r) : Lib.validRune r = true := by
  unfold okR at h
  simp [Lib.validRune]
  omega

theorem index_low : ∀ {l : List UInt8} {c : UInt8}, (∀ x ∈ l, x.toNat < 128) → 128 ≤ c.toNat → Lib.indexByte l c = -1
  | [], c, _, _ => rfl
  | b :: l, c, h, hc => by
    have ih := index_low (l := l) (c := c) (fun x hx => h x (by simp [hx])) hc
    have hb := h b (by simp)
    have hne : (b == c) = false := by
      rw [beq_eq_false_iff_ne]
      intro e
      rw [e] at hb
      omega
    show (if (b == c) = true then (0 : Int) else if (Lib.indexByte l c == -1) = true then -1 else Lib.indexByte l c + 1) = -1
    rw [hne, ih]
    rfl

set_option maxHeartbeats 2000000 in
set_option maxRecDepth 100000 in
theorem irune_bad (s : ByteArray) (w : World) (hs : ∀ c ∈ s.data.toList, c.toNat < 128) (hm : s.size ≤ 1000000) :
    Calls Tryz.prog 160 #[.string s, .int .i32 65533] w fun e w' => e = .returned (.int .i64 (-1)) ∧ Below w.heap.size w w' := by
  obtain ⟨l, hl⟩ : ∃ l, s.data.toList = l := ⟨_, rfl⟩
  have hsz : s.size = l.length := by rw [← hl]; simp
  have HSL := Lib.hid hl
  have HSZ := Lib.hid hsz
  have HLO := Lib.hid hs
  clear hl hsz hs
  go_enter Tryz.func160, Tryz.ntmps160
  go_wp2_with fail
  go_loopw [] (fun wr => ∃ pos : Nat, pos ≤ l.length ∧ wr.heap[w.heap.size]? = some (.stringIter s pos) ∧ Below w.heap.size w wr) (fun wr => s.size - wr.iterPos w.heap.size)
  case atStart => exact ⟨0, by omega, World.iter_heap w s 0, (Below.refl _ w).alloc (Nat.le_refl _) _⟩
  case round =>
    obtain ⟨pos, hle, hit, hbel⟩ := hrel
    by_cases hp : pos < l.length
    · have hps : pos < s.size := by rw [HSZ.out]; exact hp
      obtain ⟨r, d, hd⟩ : ∃ r d, dec (l.drop pos) = (r, d) := ⟨_, _, rfl⟩
      have hdec : Utf8.decode s pos = (r, d) := by rw [decode_dec, HSL.out, hd]
      have hnx : ∀ ty, (Instr.next (.pointer (some ⟨w.heap.size, 0, none⟩)) true ty).run Tryz.prog wr = .ok (.tuple #[.bool true, .int .i64 pos, .int .i32 r]) (wr.iterAt w.heap.size s (pos + d)) := fun ty => by
        rw [Lib.run_next_any_at wr w.heap.size s pos ty hit hps, hdec]
      have hch := char_at hp hd
      have hlo : l[pos].toNat < 128 := HLO.out _ (by rw [HSL.out]; exact List.getElem_mem hp)
      have hr : (r : Int) < 128 := by
        rcases hch.2.2.2 with h | h
        · omega
        · have := h.2 pos hp (Nat.le_refl _) (by omega)
          omega
      have hd1 := hch.1
      have hd2 := hch.2.1
      have hB : ((r : Int) == 65533) = false := by rw [beq_eq_false_iff_ne]; omega
      have hit2 := Lib.iterAt_heap wr w.heap.size s pos (pos + d) hit
      have hbw2 := Lib.below_iterAt hbel (k := w.heap.size) (Nat.le_refl _) s (pos + d)
      have HIT := Lib.hid hit
      have HIT2 := Lib.hid hit2
      clear hd hdec hch hlo hit hit2
      go_wp2_with fail
      go_roundw
      case rel => exact ⟨pos + d, hd2, HIT2.out, hbw2⟩
      case measure => simp only [World.iterPos, HIT2.out, HIT.out]; have := HSZ.out; omega
    · have hps : ¬ pos < s.size := by rw [HSZ.out]; exact hp
      have hnx : ∀ ty, (Instr.next (.pointer (some ⟨w.heap.size, 0, none⟩)) true ty).run Tryz.prog wr = _ := fun ty => Lib.run_next_end_at wr w.heap.size s pos ty hit hps
      clear hps hit
      go_wp2_with fail
      go_ret
      exact ⟨rfl, hbel⟩

set_option maxHeartbeats 2000000 in
set_option maxRecDepth 100000 in
theorem irune_high (s : ByteArray) (r : Int) (w : World) (hs : ∀ c ∈ s.data.toList, c.toNat < 128) (hm : s.size ≤ 1000000) (hr : 128 ≤ r) (hok : okR r) (hne : r ≠ 65533) :
    Calls Tryz.prog 160 #[.string s, .int .i32 r] w fun e w' => e = .returned (.int .i64 (-1)) ∧ Below w.heap.size w w' := by
  have HV := Lib.hid (Tryz.utf8_ValidRune r w)
  rw [valid_ok hok] at HV
  obtain ⟨t, ht, ht2, ht4, hlast⟩ := enc_hiB hr
  have HTE := Lib.hid ht
  have hBe : (r == 65533) = false := by rw [beq_eq_false_iff_ne]; exact hne
  have hB0 : decide (r < 128) = false := by rw [decide_eq_false_iff_not]; omega
  have HLO := Lib.hid hs
  clear hok hne ht hs
  go_enter Tryz.func160, Tryz.ntmps160
  go_wp2_with (refine HV.out.mono ?_; rintro e w1 ⟨rfl, rfl⟩)
  go_step3
  go_wp2_with fail
  rw [HTE.out]
  clear hBe hB0
  obtain ⟨k, hk⟩ : ∃ k, t.size = k + 1 := ⟨t.size - 1, by omega⟩
  have hw : wrap64 ((t.size : Int) - 1) = (k : Int) := by rw [IntWalk.wrap64_in _ (by omega)]; omega
  rw [hw]
  clear hw
  go_loopw [9, 10] (fun i f wr => i = .int .i64 (k : Int) ∧ f = .int .i64 0 ∧ w1 = wr) (fun _ _ _ => 0)
  case atStart => exact ⟨rfl, rfl, rfl⟩
  case round =>
    obtain ⟨rfl, rfl, rfl⟩ := hrel
    by_cases hlt : k < s.size
    · have hkt : k < t.size := by omega
      have hl1 : 128 ≤ (t[k]'hkt).toNat := by
        have := hlast (by omega)
        have e : t.size - 1 = k := by omega
        simp only [e] at this
        exact this
      have hs1 : (s[k]'hlt).toNat < 128 := HLO.out _ (by rw [← at_data s _ hlt]; exact List.getElem_mem _)
      have hne : (((s[k]'hlt).toNat : Int) != ((t[k]'hkt).toNat : Int)) = true := by rw [bne_iff_ne]; omega
      have hx : Lib.indexByte (s.extract (k + 1) s.size).data.toList (t[k]'hkt) = -1 := by
        refine index_low (fun x hx => ?_) hl1
        rw [drop_extract] at hx
        exact HLO.out x (List.mem_of_mem_drop hx)
      have HX := Lib.hid (fun W => Tryz.strings_IndexByte (s.extract (k + 1) s.size) ((t[k]'hkt).toNat : Int) W)
      have e8 : ((t[k]'hkt).toNat : Int).toNat.toUInt8 = t[k]'hkt := by simp
      rw [e8, hx] at HX
      have hkz : k + 1 ≤ s.size := hlt
      clear hlast hs1 hx e8 hk
      go_wp2_with fail
      go_step3
      go_wp2_with fail
      obtain ⟨k1, hk1⟩ : ∃ k1, k + 1 = k1 := ⟨_, rfl⟩
      have hwk : IntKind.i64.wrap ((k : Int) + 1) = (k1 : Int) := by rw [IntWalk.i64_left, IntWalk.wrap64_in _ (by omega)]; omega
      rw [hk1] at HX hkz
      have c2 : (k1 : Int) ≤ (s.size : Int) := by omega
      clear hk1
      have HQ := Lib.hid (fun (W : World) (n : Nat) => quiet_here (w := W) (n := n) ((HX.out (W.drewN n)).mono fun _ _ h => ⟨h.1, h.2.symm⟩))
      have mixed : Tryz.prog.follows Departure.mixedOrders = true := by kernel_rfl
      go_region_o
      go_wp2_with fail
      have hbd : Below w1.heap.size w1 w1.drew := (Below.refl _ _).drew
      generalize w1.drew = w2 at hbd ⊢
      go_quiet ((go_at_call 134; exact HQ.out _ _))
      go_wp2_with fail
      rw [Exit.noGoto_ret]
      go_wp2_with fail
      rw [Exit.noGoto_ret]
      go_ret
      exact ⟨rfl, hbd.trans ⟨rfl, rfl, rfl, Nat.le_refl _, fun _ _ => rfl⟩⟩
    · go_wp2_with fail
      rw [Exit.noGoto_ret]
      go_ret
      exact ⟨rfl, Below.refl _ _⟩

/-- Is a character one of a text's bytes? -/
def inZ (l : List UInt8) (r : Int) : Bool := decide (r < 128) && decide (0 ≤ Lib.indexByte l r.toNat.toUInt8)

set_option maxHeartbeats 1000000 in
theorem crune_any (s : ByteArray) (r : Int) (w : World) (hs : ∀ c ∈ s.data.toList, c.toNat < 128) (hm : s.size ≤ 1000000) (hok : okR r) :
    Calls Tryz.prog 152 #[.string s, .int .i32 r] w fun e w' => e = .returned (.bool (inZ s.data.toList r)) ∧ Below w.heap.size w w' := by
  have h0 : 0 ≤ r := by unfold okR at hok; omega
  by_cases h1 : r < 128
  · have h2 := Tryz.strings_ContainsRune_ascii s r w h0 h1
    refine h2.mono ?_
    rintro e w1 ⟨rfl, rfl⟩
    refine ⟨?_, Below.refl _ _⟩
    unfold inZ
    rw [decide_eq_true h1, Bool.true_and]
  · have h3 : Calls Tryz.prog 160 #[.string s, .int .i32 r] w fun e w' => e = .returned (.int .i64 (-1)) ∧ Below w.heap.size w w' := by
      by_cases h2 : r = 65533
      · subst h2
        exact irune_bad s w hs hm
      · exact irune_high s r w hs hm (by omega) hok h2
    have H := Lib.hid h3
    have HF := Lib.hid (show inZ s.data.toList r = false by unfold inZ; rw [decide_eq_false h1, Bool.false_and])
    clear hs hm hok h0 h1 h3
    go_enter Tryz.func152, Tryz.ntmps152
    go_wp2_with fail
    refine H.out.mono ?_
    rintro e w1 ⟨rfl, hb⟩
    go_wp2_with fail
    go_ret
    exact ⟨by rw [HF.out]; rfl, hb⟩

end Go.Proofs.YthmnnalamaponaaGreat

/- Part TkC. -/
namespace Go.Proofs.YthmnnalamaponaaGreat
open Go.RowKit
set_option linter.unusedVariables false

/-- What a function value that is asked of a character says, in whatever world behind W0. -/
structure Asks (W0 : World) (g : FuncId) (free : Array Value) (q : Int → Bool) : Prop where
  ent : ∀ args w, (callFunc g args).run Tryz.prog w = .ok (.enter g args) w
  call : ∀ (r : Int) (W : World), okR r → Below W0.heap.size W0 W → Calls Tryz.prog g (#[.int .i32 r] ++ free) W fun e W' => e = .returned (.bool (q r)) ∧ Below W.heap.size W W'
/-- It tells of bytes what p tells: of those of 128 or more all the same. -/
structure Bytely (q : Int → Bool) (p : UInt8 → Bool) (hi : Bool) : Prop where
  lo : ∀ c : UInt8, c.toNat < 128 → q (c.toNat : Int) = p c
  hz : ∀ r : Int, 128 ≤ r → okR r → q r = hi
  hb : ∀ c : UInt8, 128 ≤ c.toNat → p c = hi

theorem asks_named (W : World) : Asks W 139 #[] tagZ :=
  ⟨fun args w => by kernel_rfl, fun r W' hok hb => (named_any r W').mono fun e W2 ⟨he, hw⟩ => ⟨he, by rw [hw]; exact Below.refl _ _⟩⟩
theorem bytely_named : Bytely tagZ tagC false := ⟨fun c _ => tagZ_byte c, fun r h _ => tagZ_hi h, fun c h => tagC_hi h⟩

set_option maxHeartbeats 400000 in
theorem among1_any (s : ByteArray) (b : Nat) (r : Int) (w : World) (hc : w.cell? ⟨b, 0, none⟩ = some (.string s)) (hs : ∀ c ∈ s.data.toList, c.toNat < 128) (hm : s.size ≤ 1000000) (hok : okR r) :
    Calls Tryz.prog 151 #[.int .i32 r, .pointer (some ⟨b, 0, none⟩)] w fun e w' => e = .returned (.bool (inZ s.data.toList r)) ∧ Below w.heap.size w w' := by
  have H := Lib.hid (crune_any s r w hs hm hok)
  clear hs hm hok
  go_enter Tryz.func151, Tryz.ntmps151
  go_wp2_with fail
  refine H.out.mono ?_
  rintro e w1 ⟨rfl, hb⟩
  go_wp2_with fail
  go_ret
  exact ⟨rfl, hb⟩
set_option maxHeartbeats 400000 in
theorem outside1_any (s : ByteArray) (b : Nat) (r : Int) (w : World) (hc : w.cell? ⟨b, 0, none⟩ = some (.string s)) (hs : ∀ c ∈ s.data.toList, c.toNat < 128) (hm : s.size ≤ 1000000) (hok : okR r) :
    Calls Tryz.prog 154 #[.int .i32 r, .pointer (some ⟨b, 0, none⟩)] w fun e w' => e = .returned (.bool (!inZ s.data.toList r)) ∧ Below w.heap.size w w' := by
  have H := Lib.hid (crune_any s r w hs hm hok)
  obtain ⟨q, hq⟩ : ∃ q, inZ s.data.toList r = q := ⟨_, rfl⟩
  rw [hq] at H ⊢
  clear hs hm hok hq
  go_enter Tryz.func154, Tryz.ntmps154
  go_wp2_with fail
  refine H.out.mono ?_
  rintro e w1 ⟨rfl, hb⟩
  go_wp2_with fail
  go_ret
  exact ⟨rfl, hb⟩

/-- What among and outside hand back. -/
def Closed (g : FuncId) (s : ByteArray) (w : World) (e : Ending) (w' : World) : Prop :=
  ∃ b, e = .returned (.func (.func g) #[] #[.pointer (some ⟨b, 0, none⟩)]) ∧ b < w'.heap.size ∧ w'.cell? ⟨b, 0, none⟩ = some (.string s) ∧ Below w.heap.size w w'
set_option maxHeartbeats 400000 in
theorem among_any (s : ByteArray) (w : World) : Calls Tryz.prog 141 #[.string s] w (Closed 151 s w) := by
  go_enter Tryz.func141, Tryz.ntmps141
  go_wp2
  go_ret
  exact ⟨w.heap.size, rfl, by simp, by simp, (Below.refl _ _).alloc (Nat.le_refl _) _⟩
set_option maxHeartbeats 400000 in
theorem outside_any (s : ByteArray) (w : World) : Calls Tryz.prog 143 #[.string s] w (Closed 154 s w) := by
  go_enter Tryz.func143, Tryz.ntmps143
  go_wp2
  go_ret
  exact ⟨w.heap.size, rfl, by simp, by simp, (Below.refl _ _).alloc (Nat.le_refl _) _⟩

end Go.Proofs.YthmnnalamaponaaGreat

/- Part TkD. -/
namespace Go.Proofs.YthmnnalamaponaaGreat
open Go.RowKit
set_option linter.unusedVariables false

theorem index_mem : ∀ (l : List UInt8) (c : UInt8), decide (0 ≤ Lib.indexByte l c) = l.contains c
  | [], c => rfl
  | b :: l, c => by
    have ih := index_mem l c
    have hge := Lib.indexByte_ge l c
    show decide (0 ≤ (if (b == c) = true then (0 : Int) else if (Lib.indexByte l c == -1) = true then -1 else Lib.indexByte l c + 1)) = _
    rw [List.contains_cons, ← ih]
    by_cases h : b = c
    · subst h
      simp
    · have h1 : (b == c) = false := by rw [beq_eq_false_iff_ne]; exact h
      have h2 : (c == b) = false := by rw [beq_eq_false_iff_ne]; exact fun e => h e.symm
      rw [h1, h2, Bool.false_or, if_neg (by decide)]
      by_cases h3 : Lib.indexByte l c = -1
      · rw [h3]; rfl
      · have : (Lib.indexByte l c == -1) = false := by rw [beq_eq_false_iff_ne]; exact h3
        rw [this, if_neg (by decide), decide_eq_true (by omega), decide_eq_true (by omega)]
theorem inZ_byte (l : List UInt8) {c : UInt8} (h : c.toNat < 128) : inZ l (c.toNat : Int) = l.contains c := by
  unfold inZ
  rw [decide_eq_true (show (c.toNat : Int) < 128 by omega), Bool.true_and, ← index_mem]
  have : (c.toNat : Int).toNat.toUInt8 = c := by simp
  rw [this]
theorem inZ_hi (l : List UInt8) {r : Int} (h : 128 ≤ r) : inZ l r = false := by
  unfold inZ
  rw [decide_eq_false (by omega), Bool.false_and]
theorem contains_hi {l : List UInt8} (hs : ∀ c ∈ l, c.toNat < 128) {c : UInt8} (h : 128 ≤ c.toNat) : l.contains c = false := by
  rw [← Bool.not_eq_true, List.contains_iff_mem]
  intro hc
  have := hs c hc
  omega
theorem bytely_among {l : List UInt8} (hs : ∀ c ∈ l, c.toNat < 128) : Bytely (inZ l) (fun c => l.contains c) false :=
  ⟨fun c h => inZ_byte l h, fun r h _ => inZ_hi l h, fun c h => contains_hi hs h⟩
theorem bytely_outside {l : List UInt8} (hs : ∀ c ∈ l, c.toNat < 128) : Bytely (fun r => !inZ l r) (fun c => !l.contains c) true :=
  ⟨fun c h => by rw [inZ_byte l h], fun r h _ => by rw [inZ_hi l h]; rfl, fun c h => by rw [contains_hi hs h]; rfl⟩
/-- The closures, where they have been made. -/
theorem asks_among {s : ByteArray} {w' : World} {b : Nat} (hb : b < w'.heap.size) (hc : w'.cell? ⟨b, 0, none⟩ = some (.string s)) (hs : ∀ c ∈ s.data.toList, c.toNat < 128) (hm : s.size ≤ 1000000) :
    Asks w' 151 #[.pointer (some ⟨b, 0, none⟩)] (inZ s.data.toList) :=
  ⟨fun args w => by kernel_rfl, fun r W hok hbe => among1_any s b r W ((hbe.cell (p := ⟨b, 0, none⟩) hb).trans hc) hs hm hok⟩
theorem asks_outside {s : ByteArray} {w' : World} {b : Nat} (hb : b < w'.heap.size) (hc : w'.cell? ⟨b, 0, none⟩ = some (.string s)) (hs : ∀ c ∈ s.data.toList, c.toNat < 128) (hm : s.size ≤ 1000000) :
    Asks w' 154 #[.pointer (some ⟨b, 0, none⟩)] (fun r => !inZ s.data.toList r) :=
  ⟨fun args w => by kernel_rfl, fun r W hok hbe => outside1_any s b r W ((hbe.cell (p := ⟨b, 0, none⟩) hb).trans hc) hs hm hok⟩

/-- What part hands back. -/
def Parted (p : UInt8 → Bool) (s : ByteArray) (w : World) (e : Ending) (w' : World) : Prop :=
  ∃ a b : ByteArray, e = .returned (.tuple #[.string a, .string b]) ∧ a.data.toList = s.data.toList.takeWhile p ∧ b.data.toList = s.data.toList.dropWhile p ∧ Below w.heap.size w w'

structure PartAt (w : World) (s : ByteArray) (l : List UInt8) (p : UInt8 → Bool) (pos : Nat) (wr : World) : Prop where
  le : pos ≤ l.length
  it : wr.heap[w.heap.size]? = some (.stringIter s pos)
  bel : Below w.heap.size w wr
  ok : ∀ j (h : j < l.length), j < pos → p l[j] = true

set_option maxHeartbeats 2000000 in
set_option maxRecDepth 100000 in
theorem part_any (s : ByteArray) (g : FuncId) (free : Array Value) (q : Int → Bool) (p : UInt8 → Bool) (hi : Bool) (w : World) (A : Asks w g free q) (B : Bytely q p hi) (hm : s.size ≤ 1000000) :
    Calls Tryz.prog 138 #[.string s, .func (.func g) #[] free] w (Parted p s w) := by
  obtain ⟨l, hl⟩ : ∃ l, s.data.toList = l := ⟨_, rfl⟩
  have hsz : s.size = l.length := by rw [← hl]; simp
  have HSL := Lib.hid hl
  have HSZ := Lib.hid hsz
  have ent := A.ent
  clear hl hsz
  go_enter Tryz.func138, Tryz.ntmps138
  go_wp2_with fail
  go_loopw [] (fun wr => ∃ pos : Nat, PartAt w s l p pos wr) (fun wr => s.size - wr.iterPos w.heap.size)
  case atStart => exact ⟨0, by omega, World.iter_heap w s 0, (Below.refl _ w).alloc (Nat.le_refl _) _, fun j _ h => by omega⟩
  case round =>
    obtain ⟨pos, HR⟩ := hrel
    have hle := HR.le
    have hit := HR.it
    have hbel := HR.bel
    by_cases hp : pos < l.length
    · have hps : pos < s.size := by rw [HSZ.out]; exact hp
      obtain ⟨r, d, hd⟩ : ∃ r d, dec (l.drop pos) = (r, d) := ⟨_, _, rfl⟩
      have hdec : Utf8.decode s pos = (r, d) := by rw [decode_dec, HSL.out, hd]
      have hnx : ∀ ty, (Instr.next (.pointer (some ⟨w.heap.size, 0, none⟩)) true ty).run Tryz.prog wr = .ok (.tuple #[.bool true, .int .i64 pos, .int .i32 r]) (wr.iterAt w.heap.size s (pos + d)) := fun ty => by
        rw [Lib.run_next_any_at wr w.heap.size s pos ty hit hps, hdec]
      obtain ⟨hd1, hd2, hok, hch⟩ := char_at hp hd
      have HCH := Lib.hid hch
      have HOK := Lib.hid hok
      have hit2 := Lib.iterAt_heap wr w.heap.size s pos (pos + d) hit
      have hbw2 := Lib.below_iterAt hbel (k := w.heap.size) (Nat.le_refl _) s (pos + d)
      have hlt : w.heap.size < (wr.iterAt w.heap.size s (pos + d)).heap.size := (Array.getElem?_eq_some_iff.1 hit2).1
      have HC := Lib.hid (A.call r _ hok hbw2)
      have HIT := Lib.hid hit
      have HIT2 := Lib.hid hit2
      have HLT := Lib.hid hlt
      obtain ⟨qb, hqb⟩ : ∃ qb, q r = qb := ⟨_, rfl⟩
      rw [hqb] at HC
      have HQ := Lib.hid hqb
      have hps2 : pos ≤ s.size := by omega
      clear hd hdec hch hit hit2 hqb hok hlt
      go_wp2_with fail
      refine HC.out.mono ?_
      rintro e w2 ⟨rfl, hb2⟩
      have hbw3 := below_after hbw2 hb2
      have hit3 : w2.heap[w.heap.size]? = some (.stringIter s (pos + d)) := (hb2.block _ HLT.out).trans HIT2.out
      have HIT3 := Lib.hid hit3
      clear hit3
      cases qb with
      | true =>
        go_wp2_with fail
        go_roundw
        case rel =>
          refine ⟨pos + d, hd2, HIT3.out, hbw3, fun j hj hjp => ?_⟩
          by_cases h : j < pos
          · exact HR.ok j hj h
          · rcases HCH.out with h1 | h1
            · obtain rfl : j = pos := by omega
              rw [← B.lo _ (by omega), h1.2.2]
              exact HQ.out
            · have h2 := h1.2 j hj (by omega) hjp
              rw [B.hb _ h2, ← B.hz r (by omega) HOK.out]
              exact HQ.out
        case measure => simp only [World.iterPos, HIT3.out, HIT.out]; have := HSZ.out; omega
      | false =>
        have hsp := span_at (p := p) l pos hle HR.ok (fun h => by
          rcases HCH.out with h1 | h1
          · rw [← B.lo _ (by omega), h1.2.2]
            exact HQ.out
          · have h2 := h1.2 pos h (Nat.le_refl _) (by omega)
            rw [B.hb _ h2, ← B.hz r (by omega) HOK.out]
            exact HQ.out)
        have HSP := Lib.hid hsp
        clear hsp
        have c1 : (0 : Int) ≤ (pos : Int) := by omega
        have c2 : (pos : Int) ≤ (s.size : Int) := by omega
        go_wp2_with fail
        go_quiet (fail)
        go_wp2_with fail
        go_ret2
        exact ⟨_, _, rfl, by rw [take_extract, HSL.out, HSP.out.1], by rw [drop_extract, HSL.out, HSP.out.2], hbw3.trans ⟨rfl, rfl, rfl, Nat.le_refl _, fun _ _ => rfl⟩⟩
    · have hps : ¬ pos < s.size := by rw [HSZ.out]; exact hp
      have hnx : ∀ ty, (Instr.next (.pointer (some ⟨w.heap.size, 0, none⟩)) true ty).run Tryz.prog wr = _ := fun ty => Lib.run_next_end_at wr w.heap.size s pos ty hit hps
      have hsp := span_at (p := p) l l.length (Nat.le_refl _) (fun j h _ => HR.ok j h (by omega)) (fun h => by omega)
      rw [List.take_length, List.drop_length] at hsp
      have HSP := Lib.hid hsp
      clear hps hit hsp
      go_wp2_with fail
      go_ret2
      exact ⟨_, _, rfl, by rw [HSL.out, HSP.out.1], by rw [HSL.out, HSP.out.2], hbel⟩

/-- part, asked by the closures that among and outside make. -/
theorem part_among (s S : ByteArray) (b : Nat) (w : World) (hb : b < w.heap.size) (hc : w.cell? ⟨b, 0, none⟩ = some (.string S)) (hS : S.data.toList.all (fun c => decide (c.toNat < 128)) = true) (hz : S.size ≤ 1000000) (hm : s.size ≤ 1000000) :
    Calls Tryz.prog 138 #[.string s, .func (.func 151) #[] #[.pointer (some ⟨b, 0, none⟩)]] w (Parted (fun c => S.data.toList.contains c) s w) := by
  have h : ∀ c ∈ S.data.toList, c.toNat < 128 := fun c hc => of_decide_eq_true (List.all_eq_true.1 hS c hc)
  exact part_any s _ _ _ _ false w (asks_among hb hc h hz) (bytely_among h) hm
theorem part_outside (s S : ByteArray) (b : Nat) (w : World) (hb : b < w.heap.size) (hc : w.cell? ⟨b, 0, none⟩ = some (.string S)) (hS : S.data.toList.all (fun c => decide (c.toNat < 128)) = true) (hz : S.size ≤ 1000000) (hm : s.size ≤ 1000000) :
    Calls Tryz.prog 138 #[.string s, .func (.func 154) #[] #[.pointer (some ⟨b, 0, none⟩)]] w (Parted (fun c => !S.data.toList.contains c) s w) := by
  have h : ∀ c ∈ S.data.toList, c.toNat < 128 := fun c hc => of_decide_eq_true (List.all_eq_true.1 hS c hc)
  exact part_any s _ _ _ _ true w (asks_outside hb hc h hz) (bytely_outside h) hm

end Go.Proofs.YthmnnalamaponaaGreat

/- Part Fold. -/
namespace Go.Proofs.YthmnnalamaponaaGreat
open Go.RowKit
set_option linter.unusedVariables false

set_option maxHeartbeats 400000 in
theorem small_any (u : UInt8) (w : World) :
    Calls Tryz.prog 150 #[.int .u8 u.toNat] w fun e w' => e = .returned (.int .u8 (lowB u).toNat) ∧ w = w' := by
  have hl := lowB_toNat u
  have hb := u.toNat_lt
  by_cases h1 : 65 ≤ u.toNat
  · by_cases h2 : u.toNat ≤ 90
    · have hl' : ((u.toNat : Int) + 32) = ((lowB u).toNat : Int) := by rw [hl, if_pos ⟨h1, h2⟩]; omega
      have HL := Lib.hid hl'
      clear hl hl'
      go_enter Tryz.func150, Tryz.ntmps150
      go_wp2
      go_ret
      exact ⟨ret_int HL.out, rfl⟩
    · have hl' : (u.toNat : Int) = ((lowB u).toNat : Int) := by rw [hl, if_neg (by omega)]
      have HL := Lib.hid hl'
      clear hl hl'
      go_enter Tryz.func150, Tryz.ntmps150
      go_wp2
      go_ret
      exact ⟨ret_int HL.out, rfl⟩
  · have hl' : (u.toNat : Int) = ((lowB u).toNat : Int) := by rw [hl, if_neg (by omega)]
    have HL := Lib.hid hl'
    clear hl hl'
    go_enter Tryz.func150, Tryz.ntmps150
    go_wp2
    go_ret
    exact ⟨ret_int HL.out, rfl⟩

/-- What holds of the row of bytes after k rounds: the first k are small. -/
def FoldRow (w : World) (B : Nat) (l : List UInt8) (k : Nat) : Prop :=
  ∀ j, (h : j < l.length) → w.cell? ⟨B, j, none⟩ = some (.int .u8 (if j < k then lowB l[j] else l[j]).toNat) ∧ w.frozen? ⟨B, j, none⟩ = false

theorem FoldRow.step {w : World} {B : Nat} {l : List UInt8} {k : Nat} (h : FoldRow w B l k) (hk : k < l.length) :
    FoldRow (w.setCell ⟨B, k, none⟩ (.int .u8 (lowB l[k]).toNat)) B l (k + 1) := by
  intro j hj
  obtain ⟨hc, hf⟩ := h j hj
  by_cases hjk : j = k
  · subst hjk
    refine ⟨?_, by rw [World.frozen?_setCell]; exact hf⟩
    rw [if_pos (by omega)]
    exact World.cell?_setCell_same _ _ _ hc
  · refine ⟨?_, by rw [World.frozen?_setCell]; exact hf⟩
    rw [World.cell?_setCell_other _ _ _ _ (by intro e; injection e; omega), hc]
    by_cases h1 : j < k
    · rw [if_pos h1, if_pos (by omega)]
    · rw [if_neg h1, if_neg (by omega)]

theorem FoldRow.start (w : World) (s : ByteArray) (cap : Nat) :
    FoldRow (w.alloc (.cells (bytesRow s cap) 5 ((bytesRow s cap).size, (bytesRow s cap).size + 1))).drew w.heap.size s.data.toList 0 := by
  intro j hj
  have hj' : j < s.data.size := by simpa using hj
  refine ⟨?_, ?_⟩
  · rw [if_neg (by omega)]
    show (w.alloc _).cell? _ = _
    rw [World.cell?_alloc_mark, bytesRow_at s cap j hj']
    simp
  · show (w.alloc _).frozen? _ = _
    rw [World.frozen?_alloc_mark]
    have : j < (bytesRow s cap).size := by
      rcases Nat.lt_or_ge j (bytesRow s cap).size with h | h
      · exact h
      · have := bytesRow_at s cap j hj'
        rw [Array.getElem?_eq_none h] at this
        cases this
    simp
    omega

theorem FoldRow.done {w : World} {B : Nat} {l : List UInt8} (h : FoldRow w B l l.length) :
    ∀ j (hj : j < (l.map lowB).length), w.cell? ((⟨B, 0, none⟩ : Addr).add j) = some (.int .u8 (((l.map lowB)[j]).toNat : Int)) := by
  intro j hj
  have hj' : j < l.length := by simpa using hj
  have := (h j hj').1
  rw [if_pos hj'] at this
  rw [add_zero_addr, this]
  simp

set_option maxHeartbeats 400000 in
theorem fold_any (s : ByteArray) (w : World) (hs : s.size ≤ maxLen) :
    Calls Tryz.prog 140 #[.string s] w fun e w' => e = .returned (.string ⟨(s.data.toList.map lowB).toArray⟩) ∧ Below w.heap.size w w' := by
  unfold maxLen at hs
  have hsl : s.data.toList.length = s.size := by simp
  have kb := fun (w : World) (s : ByteArray) => run_bytes_of_string (P := Tryz.prog) w 9 27 5 s Tryz.underlying9 Tryz.underlying27 Tryz.underlying5
  go_enter Tryz.func140, Tryz.ntmps140
  go_wp2
  go_loopw [10] (fun i wr => ∃ k : Nat, k ≤ s.size ∧ i = .int .i64 k ∧ FoldRow wr w.heap.size s.data.toList k ∧ Below w.heap.size w wr) (fun i _ => s.size - (intOf i).toNat)
  case atStart => exact ⟨0, Nat.zero_le _, rfl, FoldRow.start _ _ _, ((Below.refl _ _).alloc (Nat.le_refl _) _).drew⟩
  case round =>
    obtain ⟨k, hk, rfl, hrow, hbel⟩ := hrel
    by_cases hlt : k < s.size
    · have hr := hrow k (by omega)
      have hcell := hr.1
      rw [if_neg (by omega)] at hcell
      have hfr := hr.2
      have hstep := hrow.step (k := k) (by omega)
      clear hr hrow
      obtain ⟨u, hu⟩ : ∃ u, s.data.toList[k]'(by omega) = u := ⟨_, rfl⟩
      rw [hu] at hcell hstep
      clear hu
      go_wp2_with (go_at_call 150; refine (small_any _ _).mono ?_; rintro e w' ⟨rfl, rfl⟩)
      go_roundw
      case rel => exact ⟨k + 1, by omega, by go_num, hstep, hbel.setCell (Nat.le_refl _) _⟩
      case measure => simp [intOf]; omega
    · obtain rfl : k = s.size := by omega
      have kc := run_convert_bytes_back (P := Tryz.prog) wr 27 9 5 ⟨w.heap.size, 0, none⟩ (grownCap w s.size 0 5) (s.data.toList.map lowB) Tryz.underlying27 Tryz.underlying5 Tryz.underlying9 (FoldRow.done (by rw [hsl]; exact hrow))
      rw [List.length_map, hsl] at kc
      go_wp2
      go_ret
      exact ⟨rfl, hbel⟩

end Go.Proofs.YthmnnalamaponaaGreat

/- Part Prefix. -/
namespace Go.Proofs.YthmnnalamaponaaGreat
open Go.RowKit
set_option linter.unusedVariables false

/-- Do the first bytes of l, made small, make up the word? -/
def prefB (l word : List UInt8) : Bool := decide ((l.map lowB).take word.length = word)

theorem prefB_short {l word : List UInt8} (h : l.length < word.length) : prefB l word = false := by
  unfold prefB
  rw [decide_eq_false_iff_not]
  intro e
  have := congrArg List.length e
  simp at this
  omega

theorem prefB_no {l word : List UInt8} {k : Nat} (h1 : k < l.length) (h2 : k < word.length) (h : lowB l[k] ≠ word[k]) : prefB l word = false := by
  unfold prefB
  rw [decide_eq_false_iff_not]
  intro e
  have e1 : ((l.map lowB).take word.length)[k]? = word[k]? := by rw [e]
  rw [List.getElem?_take_of_lt h2, List.getElem?_map, List.getElem?_eq_getElem h1, List.getElem?_eq_getElem h2] at e1
  exact h (by simpa using e1)

theorem prefB_yes {l word : List UInt8} (hl : word.length ≤ l.length) (h : ∀ j, (h2 : j < word.length) → lowB (l[j]'(by omega)) = word[j]) : prefB l word = true := by
  unfold prefB
  rw [decide_eq_true_iff]
  apply List.ext_getElem
  · simp; omega
  · intro i h1 h2
    simp
    exact h i h2

set_option maxHeartbeats 400000 in
theorem prefix_any (s word : ByteArray) (w : World) (hs : s.size ≤ maxLen) (hw : word.size ≤ maxLen) :
    Calls Tryz.prog 148 #[.string s, .string word] w fun e w' => e = .returned (.bool (prefB s.data.toList word.data.toList)) ∧ Below w.heap.size w w' := by
  unfold maxLen at hs hw
  have hsl : s.data.toList.length = s.size := by simp
  have hwl : word.data.toList.length = word.size := by simp
  by_cases hlen : s.size < word.size
  · have hp := Lib.hid (prefB_short (l := s.data.toList) (word := word.data.toList) (by omega))
    clear hsl hwl
    go_enter Tryz.func148, Tryz.ntmps148
    go_wp2
    go_ret
    exact ⟨by rw [hp.out]; rfl, Below.refl _ _⟩
  · go_enter Tryz.func148, Tryz.ntmps148
    go_wp2
    go_loopw [13] (fun i wr => ∃ k : Nat, k ≤ word.size ∧ i = .int .i64 k ∧ (∀ j, (h2 : j < k) → (h3 : k ≤ word.size) → lowB (s[j]'(by omega)) = word[j]'(by omega)) ∧ Below w.heap.size w wr) (fun i _ => word.size - (intOf i).toNat)
    case atStart => exact ⟨0, Nat.zero_le _, rfl, fun _ h => absurd h (by omega), Below.refl _ _⟩
    case round =>
      obtain ⟨k, hk, rfl, hall, hbel⟩ := hrel
      have HA := Lib.hid hall
      clear hall
      by_cases hlt : k < word.size
      · have hlt2 : k < s.size := by omega
        by_cases he : lowB s[k] = word[k]
        · have hne : (((lowB s[k]).toNat : Int) != (word[k].toNat : Int)) = false := by rw [he]; simp
          have HE := Lib.hid he
          clear he
          go_wp2_with fail
          go_quiet ((go_at_call 150; exact quiet_here (small_any _ _)))
          go_wp2
          go_roundw
          case rel =>
            refine ⟨k + 1, by omega, by go_num, fun j h2 h3 => ?_, below_drewN hbel _⟩
            by_cases hj : j < k
            · exact HA.out j hj (by omega)
            · obtain rfl : j = k := by omega
              exact HE.out
          case measure => simp [intOf]; omega
        · have hne : (((lowB s[k]).toNat : Int) != (word[k].toNat : Int)) = true := by
            rw [bne_iff_ne]
            intro e
            exact he (UInt8.toNat_inj.1 (by omega))
          have hp := Lib.hid (prefB_no (l := s.data.toList) (word := word.data.toList) (k := k) (by omega) (by omega) (by rw [at_data s k hlt2, at_data word k hlt]; exact he))
          clear he
          go_wp2_with fail
          go_quiet ((go_at_call 150; exact quiet_here (small_any _ _)))
          go_wp2
          go_ret
          exact ⟨by rw [hp.out]; rfl, below_drewN hbel _⟩
      · obtain rfl : k = word.size := by omega
        have hp := Lib.hid (prefB_yes (l := s.data.toList) (word := word.data.toList) (by omega) (fun j h2 => by rw [at_data s j (by omega), at_data word j (by omega)]; exact HA.out j (by omega) (by omega)))
        go_wp2
        go_ret
        exact ⟨by rw [hp.out]; rfl, hbel⟩

end Go.Proofs.YthmnnalamaponaaGreat

/- Part TkE. -/
namespace Go.Proofs.YthmnnalamaponaaGreat
open Go.RowKit
set_option linter.unusedVariables false

structure CalmAt (w : World) (s : ByteArray) (f : List UInt8 → Bool) (l : List UInt8) (pos : Nat) (wr : World) : Prop where
  le : pos ≤ l.length
  it : wr.heap[w.heap.size]? = some (.stringIter s pos)
  bel : Below w.heap.size w wr
  no : ∀ j, j < pos → f (l.drop j) = false

/-- What a search for a place hands back. -/
def Found (f : List UInt8 → Bool) (l : List UInt8) (w : World) (e : Ending) (w' : World) : Prop :=
  ∃ k : Nat, e = .returned (.int .i64 k) ∧ k ≤ l.length ∧ (∀ j, j < k → f (l.drop j) = false) ∧ (k < l.length → f (l.drop k) = true) ∧ Below w.heap.size w w'

set_option maxHeartbeats 2000000 in
set_option maxRecDepth 100000 in
theorem calm_any (s : ByteArray) (w : World) (hm : s.size ≤ 1000000) : Calls Tryz.prog 122 #[.string s] w (Found startsB s.data.toList w) := by
  obtain ⟨l, hl⟩ : ∃ l, s.data.toList = l := ⟨_, rfl⟩
  have hsz : s.size = l.length := by rw [← hl]; simp
  have HSL := Lib.hid hl
  have HSZ := Lib.hid hsz
  rw [hl]
  clear hl hsz
  go_enter Tryz.func122, Tryz.ntmps122
  go_wp2_with fail
  go_loopw [] (fun wr => ∃ pos : Nat, CalmAt w s startsB l pos wr) (fun wr => s.size - wr.iterPos w.heap.size)
  case atStart => exact ⟨0, by omega, World.iter_heap w s 0, (Below.refl _ w).alloc (Nat.le_refl _) _, fun j h => by omega⟩
  case round =>
    obtain ⟨pos, HR⟩ := hrel
    have hle := HR.le
    have hit := HR.it
    have hbel := HR.bel
    by_cases hp : pos < l.length
    · have hps : pos < s.size := by rw [HSZ.out]; exact hp
      obtain ⟨r, d, hd⟩ : ∃ r d, dec (l.drop pos) = (r, d) := ⟨_, _, rfl⟩
      have hdec : Utf8.decode s pos = (r, d) := by rw [decode_dec, HSL.out, hd]
      have hnx : ∀ ty, (Instr.next (.pointer (some ⟨w.heap.size, 0, none⟩)) true ty).run Tryz.prog wr = .ok (.tuple #[.bool true, .int .i64 pos, .int .i32 r]) (wr.iterAt w.heap.size s (pos + d)) := fun ty => by
        rw [Lib.run_next_any_at wr w.heap.size s pos ty hit hps, hdec]
      obtain ⟨hd1, hd2, hok, hch⟩ := char_at hp hd
      have HCH := Lib.hid hch
      have hit2 := Lib.iterAt_heap wr w.heap.size s pos (pos + d) hit
      have hbw2 := Lib.below_iterAt hbel (k := w.heap.size) (Nat.le_refl _) s (pos + d)
      have HIT := Lib.hid hit
      have HIT2 := Lib.hid hit2
      have c2 : (pos : Int) ≤ (s.size : Int) := by omega
      by_cases h60 : r = 60
      · subst h60
        have hd1' : d = 1 := by rcases HCH.out with h | h <;> omega
        subst hd1'
        obtain ⟨q, hq⟩ : ∃ q, startsB (l.drop pos) = q := ⟨_, rfl⟩
        have hst := starts_any (s.extract pos s.size) (wr.iterAt w.heap.size s (pos + 1)) (by unfold maxLen; rw [ByteArray.size_extract]; omega)
        rw [drop_extract, HSL.out, hq] at hst
        have HST := Lib.hid hst
        have HQ := Lib.hid hq
        clear hd hdec hch hit hit2 hok hst hq
        cases q with
        | true =>
          go_wp2_with fail
          refine HST.out.mono ?_
          rintro e w2 ⟨rfl, rfl⟩
          go_wp2_with fail
          go_ret
          exact ⟨pos, rfl, hle, HR.no, fun _ => HQ.out, hbw2⟩
        | false =>
          go_wp2_with fail
          refine HST.out.mono ?_
          rintro e w2 ⟨rfl, rfl⟩
          go_wp2_with fail
          go_roundw
          case rel =>
            refine ⟨pos + 1, hd2, HIT2.out, hbw2, fun j hj => ?_⟩
            by_cases h : j < pos
            · exact HR.no j h
            · obtain rfl : j = pos := by omega
              exact HQ.out
          case measure => simp only [World.iterPos, HIT2.out, HIT.out]; have := HSZ.out; omega
      · have hB : ((r : Int) == 60) = false := by rw [beq_eq_false_iff_ne]; omega
        clear hd hdec hch hit hit2 hok
        go_wp2_with fail
        go_roundw
        case rel =>
          refine ⟨pos + d, hd2, HIT2.out, hbw2, fun j hj => ?_⟩
          by_cases h : j < pos
          · exact HR.no j h
          · refine starts_at (by omega) ?_
            rcases HCH.out with h1 | h1
            · obtain rfl : j = pos := by omega
              omega
            · have := h1.2 j (by omega) (by omega) hj
              omega
        case measure => simp only [World.iterPos, HIT2.out, HIT.out]; have := HSZ.out; omega
    · have hps : ¬ pos < s.size := by rw [HSZ.out]; exact hp
      have hnx : ∀ ty, (Instr.next (.pointer (some ⟨w.heap.size, 0, none⟩)) true ty).run Tryz.prog wr = _ := fun ty => Lib.run_next_end_at wr w.heap.size s pos ty hit hps
      have hpl : pos = l.length := by omega
      subst hpl
      clear hps hit
      go_wp2_with fail
      go_ret
      exact ⟨l.length, by rw [← HSZ.out]; rfl, Nat.le_refl _, HR.no, fun h => absurd h (Nat.lt_irrefl _), hbel⟩

set_option maxHeartbeats 400000 in
theorem over_any (s : ByteArray) (w : World) (hm : s.size ≤ 1000000) :
    Calls Tryz.prog 149 #[.string s] w fun e w' => e = .returned (.bool (match s.data.toList with | [] => false | c :: _ => blC c || decide (c = 47) || decide (c = 62))) ∧ Below w.heap.size w w' := by
  obtain ⟨l, hl⟩ : ∃ l, s.data.toList = l := ⟨_, rfl⟩
  have hsz : s.size = l.length := by rw [← hl]; simp
  have he := eqs s []
  rw [hl] at he ⊢
  cases l with
  | nil =>
    have B0 : (s.toList == []) = true := by rw [he]; rfl
    clear hl hsz he
    go_enter Tryz.func149, Tryz.ntmps149
    go_wp2_with fail
    go_ret
    exact ⟨rfl, Below.refl _ _⟩
  | cons c r =>
    have B0 : (s.toList == []) = false := by rw [he]; rfl
    have h1 : s.extract 0 1 = ⟨#[c]⟩ := by
      apply bytes_inj
      rw [take_extract, hl]
      rfl
    have hs1 : (1 : Int) ≤ (s.size : Int) := by rw [hsz, List.length_cons]; omega
    have h2 := Tryz.strings_Contains_one ⟨#[9, 10, 12, 32, 47, 62]⟩ c w
    have hF : (⟨#[9, 10, 12, 32, 47, 62]⟩ : ByteArray).data.toList.contains c = (blC c || decide (c = 47) || decide (c = 62)) := by
      have e : ∀ x y : UInt8, (x == y) = decide (x.toNat = y.toNat) := fun x y => by rw [Bool.eq_iff_iff, beq_iff_eq, decide_eq_true_eq, UInt8.toNat_inj]
      have e' : ∀ x y : UInt8, decide (x = y) = decide (x.toNat = y.toNat) := fun x y => by rw [decide_eq_decide, UInt8.toNat_inj]
      show ([9, 10, 12, 32, 47, 62] : List UInt8).contains c = _
      simp only [List.contains_cons, List.contains_nil, blC, e, e', Bool.or_false, Bool.or_assoc]
      rfl
    rw [index_mem, hF] at h2
    show Calls _ _ _ _ fun e w' => e = .returned (.bool (blC c || decide (c = 47) || decide (c = 62))) ∧ _
    obtain ⟨q, hq⟩ : ∃ q, (blC c || decide (c = 47) || decide (c = 62)) = q := ⟨_, rfl⟩
    rw [hq] at h2 ⊢
    have H := Lib.hid h2
    clear h2 hF hq
    clear hl hsz he
    go_enter Tryz.func149, Tryz.ntmps149
    go_wp2_with fail
    refine H.out.mono ?_
    rintro e w1 ⟨rfl, rfl⟩
    go_wp2_with fail
    go_ret
    exact ⟨rfl, Below.refl _ _⟩

end Go.Proofs.YthmnnalamaponaaGreat

/- Part TkF. -/
namespace Go.Proofs.YthmnnalamaponaaGreat
open Go.RowKit
set_option linter.unusedVariables false

def overB (l : List UInt8) : Bool := match l with | [] => false | c :: _ => blC c || decide (c = 47) || decide (c = 62)
theorem endAt_pre (nm l : List UInt8) : endAt nm l = (prefB l (60 :: 47 :: nm) && overB (l.drop (2 + nm.length))) := by
  unfold endAt prefB overB
  rw [List.map_take, show (60 :: 47 :: nm : List UInt8).length = 2 + nm.length by simp; omega]
  rfl
theorem prefB_len {l word : List UInt8} (h : prefB l word = true) : word.length ≤ l.length := by
  unfold prefB at h
  have := congrArg List.length (of_decide_eq_true h)
  rw [List.length_take, List.length_map] at this
  omega

/-- What a search for a raw element's end hands back. -/
def EndFound (nm l : List UInt8) (w : World) (e : Ending) (w' : World) : Prop :=
  ∃ z : Int, e = .returned (.int .i64 z) ∧ ((z = -1 ∧ cutEnd nm l = (l, [])) ∨ ∃ k : Nat, z = k ∧ k ≤ l.length ∧ cutEnd nm l = (l.take k, l.drop k)) ∧ Below w.heap.size w w'

set_option maxHeartbeats 4000000 in
set_option maxRecDepth 100000 in
theorem tkends_any (s nm : ByteArray) (w : World) (hm : s.size ≤ 1000000) (hn : nm.size ≤ 1000000) : Calls Tryz.prog 136 #[.string s, .string nm] w (EndFound nm.data.toList s.data.toList w) := by
  obtain ⟨l, hl⟩ : ∃ l, s.data.toList = l := ⟨_, rfl⟩
  have hsz : s.size = l.length := by rw [← hl]; simp
  have HSL := Lib.hid hl
  have HSZ := Lib.hid hsz
  rw [hl]
  clear hl hsz
  have hmz : (⟨#[60, 47]⟩ ++ nm : ByteArray).size = nm.size + 2 := by rw [ByteArray.size_append]; show 2 + nm.size = _; omega
  have hml : (⟨#[60, 47]⟩ ++ nm : ByteArray).data.toList = 60 :: 47 :: nm.data.toList := by rw [ByteArray.data_append, Array.toList_append]; rfl
  have hnl : nm.size = nm.data.toList.length := by simp
  have hov : ¬ ((9223372036854775807 : Int) < 2 + (nm.size : Int)) := by omega
  have hov2 : ¬ ((9223372036854775807 : Nat) < 2 + nm.size) := by omega
  have hov3 : ¬ ((9223372036854775807 : Nat) < nm.size + 2) := by omega
  have HMZ0 := Lib.hid hmz
  have HML0 := Lib.hid hml
  have HNL := Lib.hid hnl
  clear hmz hml hnl
  go_enter Tryz.func136, Tryz.ntmps136
  go_wp2_with fail
  obtain ⟨mk, hmk⟩ : ∃ mk : ByteArray, (⟨#[60, 47]⟩ ++ nm : ByteArray) = mk := ⟨_, rfl⟩
  rw [hmk] at HMZ0 HML0 ⊢
  have HML := HML0
  have HMZ := HMZ0
  have hmk2 : mk.size ≤ 1000002 := by have := HMZ.out; omega
  clear hmk hov hov2 hov3 HML0 HMZ0
  go_loopw [] (fun wr => ∃ pos : Nat, CalmAt w s (endAt nm.data.toList) l pos wr) (fun wr => s.size - wr.iterPos w.heap.size)
  case atStart => exact ⟨0, by omega, World.iter_heap w s 0, (Below.refl _ w).alloc (Nat.le_refl _) _, fun j h => by omega⟩
  case round =>
    obtain ⟨pos, HR⟩ := hrel
    have hle := HR.le
    have hit := HR.it
    have hbel := HR.bel
    by_cases hp : pos < l.length
    · have hps : pos < s.size := by rw [HSZ.out]; exact hp
      obtain ⟨r, d, hd⟩ : ∃ r d, dec (l.drop pos) = (r, d) := ⟨_, _, rfl⟩
      have hdec : Utf8.decode s pos = (r, d) := by rw [decode_dec, HSL.out, hd]
      have hnx : ∀ ty, (Instr.next (.pointer (some ⟨w.heap.size, 0, none⟩)) true ty).run Tryz.prog wr = .ok (.tuple #[.bool true, .int .i64 pos, .int .i32 r]) (wr.iterAt w.heap.size s (pos + d)) := fun ty => by
        rw [Lib.run_next_any_at wr w.heap.size s pos ty hit hps, hdec]
      obtain ⟨hd1, hd2, hok, hch⟩ := char_at hp hd
      have HCH := Lib.hid hch
      have hit2 := Lib.iterAt_heap wr w.heap.size s pos (pos + d) hit
      have hbw2 := Lib.below_iterAt hbel (k := w.heap.size) (Nat.le_refl _) s (pos + d)
      have HIT := Lib.hid hit
      have HIT2 := Lib.hid hit2
      have HLT := Lib.hid (show w.heap.size < (wr.iterAt w.heap.size s (pos + d)).heap.size from (Array.getElem?_eq_some_iff.1 hit2).1)
      have c2 : (pos : Int) ≤ (s.size : Int) := by omega
      by_cases h60 : r = 60
      · subst h60
        have hd1' : d = 1 := by rcases HCH.out with h | h <;> omega
        subst hd1'
        obtain ⟨q, hq⟩ : ∃ q, prefB (l.drop pos) (60 :: 47 :: nm.data.toList) = q := ⟨_, rfl⟩
        have hst := prefix_any (s.extract pos s.size) mk (wr.iterAt w.heap.size s (pos + 1)) (by unfold maxLen; rw [ByteArray.size_extract]; omega) (by unfold maxLen; omega)
        rw [drop_extract, HSL.out, HML.out, hq] at hst
        have HST := Lib.hid hst
        have HQ := Lib.hid hq
        clear hd hdec hch hit hit2 hok hst
        cases q with
        | true =>
          have hpl := prefB_len hq
          rw [List.length_drop, List.length_cons, List.length_cons, ← HNL.out] at hpl
          have hpl2 : pos + mk.size ≤ s.size := by rw [HMZ.out, HSZ.out]; omega
          obtain ⟨m, hm1⟩ : ∃ m, pos + mk.size = m := ⟨_, rfl⟩
          have hmi : IntKind.i64.wrap ((pos : Int) + (mk.size : Int)) = (m : Int) := by rw [IntWalk.i64_left, IntWalk.wrap64_in _ (by omega)]; omega
          have hmi2 : (m : Int) ≤ (s.size : Int) := by omega
          have hov := fun W => over_any (s.extract m s.size) W (by rw [ByteArray.size_extract]; omega)
          rw [drop_extract, HSL.out] at hov
          obtain ⟨v, hv⟩ : ∃ v, overB (l.drop m) = v := ⟨_, rfl⟩
          have hov2 : ∀ W, Calls Tryz.prog 149 #[.string (s.extract m s.size)] W fun e w' => e = .returned (.bool v) ∧ Below W.heap.size W w' := fun W => by
            rw [← hv]
            exact hov W
          have hE : endAt nm.data.toList (l.drop pos) = v := by
            rw [endAt_pre, HQ.out, Bool.true_and, List.drop_drop, ← hv, ← hm1, HMZ.out, HNL.out, Nat.add_comm 2]
          have HOV := Lib.hid hov2
          have HE := Lib.hid hE
          clear hq hpl hpl2 hm1 hov hov2 hv hE
          cases v with
          | true =>
            go_wp2_with fail
            refine HST.out.mono ?_
            rintro e w2 ⟨rfl, hb2⟩
            have hbw3 := below_after hbw2 hb2
            go_wp2_with fail
            refine (HOV.out _).mono ?_
            rintro e w3 ⟨rfl, hb3⟩
            have hbw4 := below_after hbw3 hb3
            go_wp2_with fail
            go_ret
            exact ⟨pos, rfl, .inr ⟨pos, rfl, hle, cutEnd_k _ l pos hle HR.no fun _ => HE.out⟩, hbw4⟩
          | false =>
            go_wp2_with fail
            refine HST.out.mono ?_
            rintro e w2 ⟨rfl, hb2⟩
            have hbw3 := below_after hbw2 hb2
            have hit3 : w2.heap[w.heap.size]? = some (.stringIter s (pos + 1)) := (hb2.block _ HLT.out).trans HIT2.out
            have hlt3 : w.heap.size < w2.heap.size := (Array.getElem?_eq_some_iff.1 hit3).1
            have HIT3 := Lib.hid hit3
            have HLT3 := Lib.hid hlt3
            clear hit3 hlt3
            go_wp2_with fail
            refine (HOV.out _).mono ?_
            rintro e w3 ⟨rfl, hb3⟩
            have hbw4 := below_after hbw3 hb3
            have HIT4 := Lib.hid (show w3.heap[w.heap.size]? = some (.stringIter s (pos + 1)) from (hb3.block _ HLT3.out).trans HIT3.out)
            go_wp2_with fail
            go_roundw
            case rel =>
              refine ⟨pos + 1, hd2, HIT4.out, hbw4, fun j hj => ?_⟩
              by_cases h : j < pos
              · exact HR.no j h
              · obtain rfl : j = pos := by omega
                exact HE.out
            case measure => simp only [World.iterPos, HIT4.out, HIT.out]; have := HSZ.out; omega
        | false =>
          have HE := Lib.hid (show endAt nm.data.toList (l.drop pos) = false by rw [endAt_pre, hq, Bool.false_and])
          clear hq
          go_wp2_with fail
          refine HST.out.mono ?_
          rintro e w2 ⟨rfl, hb2⟩
          have hbw3 := below_after hbw2 hb2
          have HIT3 := Lib.hid (show w2.heap[w.heap.size]? = some (.stringIter s (pos + 1)) from (hb2.block _ HLT.out).trans HIT2.out)
          go_wp2_with fail
          go_roundw
          case rel =>
            refine ⟨pos + 1, hd2, HIT3.out, hbw3, fun j hj => ?_⟩
            by_cases h : j < pos
            · exact HR.no j h
            · obtain rfl : j = pos := by omega
              exact HE.out
          case measure => simp only [World.iterPos, HIT3.out, HIT.out]; have := HSZ.out; omega
      · have hB : ((r : Int) == 60) = false := by rw [beq_eq_false_iff_ne]; omega
        clear hd hdec hch hit hit2 hok
        go_wp2_with fail
        go_roundw
        case rel =>
          refine ⟨pos + d, hd2, HIT2.out, hbw2, fun j hj => ?_⟩
          by_cases h : j < pos
          · exact HR.no j h
          · refine endAt_ne (by omega) ?_
            rcases HCH.out with h1 | h1
            · obtain rfl : j = pos := by omega
              omega
            · have := h1.2 j (by omega) (by omega) hj
              omega
        case measure => simp only [World.iterPos, HIT2.out, HIT.out]; have := HSZ.out; omega
    · have hps : ¬ pos < s.size := by rw [HSZ.out]; exact hp
      have hnx : ∀ ty, (Instr.next (.pointer (some ⟨w.heap.size, 0, none⟩)) true ty).run Tryz.prog wr = _ := fun ty => Lib.run_next_end_at wr w.heap.size s pos ty hit hps
      have hpl : pos = l.length := by omega
      subst hpl
      clear hps hit
      go_wp2_with fail
      go_ret
      refine ⟨-1, rfl, .inl ⟨rfl, ?_⟩, hbel⟩
      have := cutEnd_k nm.data.toList l l.length (Nat.le_refl _) HR.no (fun h => absurd h (Nat.lt_irrefl _))
      rw [List.take_length, List.drop_length] at this
      exact this

/-- What inside hands back. -/
def InFound (nm l : List UInt8) (w : World) (e : Ending) (w' : World) : Prop :=
  ∃ k : Nat, e = .returned (.int .i64 k) ∧ k ≤ l.length ∧ cutEnd nm l = (l.take k, l.drop k) ∧ Below w.heap.size w w'
set_option maxHeartbeats 1000000 in
theorem inside_any (s nm : ByteArray) (w : World) (hm : s.size ≤ 1000000) (hn : nm.size ≤ 1000000) : Calls Tryz.prog 125 #[.string s, .string nm] w (InFound nm.data.toList s.data.toList w) := by
  have H := Lib.hid (tkends_any s nm w hm hn)
  have HSZ := Lib.hid (show s.data.toList.length = s.size by simp)
  clear hn
  go_enter Tryz.func125, Tryz.ntmps125
  go_wp2_with fail
  refine H.out.mono ?_
  rintro e w1 ⟨z, rfl, hz, hb⟩
  have HZ := Lib.hid hz
  clear hz
  by_cases h0 : 0 ≤ z
  · go_wp2_with fail
    go_ret
    rcases HZ.out with h | ⟨k, rfl, hk, hc⟩
    · omega
    · exact ⟨k, rfl, hk, hc, hb⟩
  · go_wp2_with fail
    go_ret
    rcases HZ.out with h | ⟨k, rfl, hk, hc⟩
    · refine ⟨s.size, rfl, by rw [HSZ.out]; exact Nat.le_refl _, ?_, hb⟩
      rw [h.2, ← HSZ.out, List.take_length, List.drop_length]
    · omega

end Go.Proofs.YthmnnalamaponaaGreat

/- Part TkT. -/
namespace Go.Proofs.YthmnnalamaponaaGreat
open Go.RowKit
set_option linter.unusedVariables false

def tcells1 (r : Tk × Value) : List Value := [.int .i64 r.1.kind, .string r.1.name, r.2, .string r.1.text]
def tcells (R : List (Tk × Value)) : List Value := R.flatMap tcells1
theorem tcells_nil : tcells [] = [] := rfl
theorem tcells_append (a b : List (Tk × Value)) : tcells (a ++ b) = tcells a ++ tcells b := by simp [tcells]
theorem tcells_cons (r : Tk × Value) (R : List (Tk × Value)) : tcells (r :: R) = .int .i64 r.1.kind :: .string r.1.name :: r.2 :: .string r.1.text :: tcells R := by simp [tcells, tcells1]
theorem tcells_length : ∀ R, (tcells R).length = R.length * 4
  | [] => rfl
  | r :: R => by rw [tcells_cons]; simp only [List.length_cons]; rw [tcells_length R]; omega
theorem tcells_at : ∀ {R : List (Tk × Value)} {k : Nat} {r : Tk × Value}, R[k]? = some r → (tcells R)[k * 4]? = some (.int .i64 r.1.kind) ∧ (tcells R)[k * 4 + 1]? = some (.string r.1.name) ∧ (tcells R)[k * 4 + 2]? = some r.2 ∧ (tcells R)[k * 4 + 3]? = some (.string r.1.text)
  | [], k, r, h => by simp at h
  | a :: R, 0, r, h => by
    simp at h
    subst h
    rw [tcells_cons]
    exact ⟨rfl, rfl, rfl, rfl⟩
  | a :: R, k + 1, r, h => by
    have := tcells_at (R := R) (k := k) (r := r) (by simpa using h)
    rw [tcells_cons, show (k + 1) * 4 = k * 4 + 1 + 1 + 1 + 1 by omega]
    simpa using this

/-- The slice v holds the tokens l, with their attributes, in blocks of S. -/
def TokAt (S : Nat → Prop) (w : World) (l : List Tk) (v : Value) : Prop :=
  ∃ (R : List (Tk × Value)) (A : Option Addr) (c : Nat), R.map (·.1) = l ∧ v = .slice A l.length c ∧ l.length ≤ c ∧ Cells S w A (tcells R) ∧ ∀ r ∈ R, AttrsAt S w r.1.attrs r.2
theorem TokAt.keep {S : Nat → Prop} {w w' : World} {l : List Tk} {v : Value} (h : TokAt S w l v) (hk : Kept S w w') : TokAt S w' l v := by
  obtain ⟨R, A, c, h1, h2, h3, h4, h5⟩ := h
  exact ⟨R, A, c, h1, h2, h3, h4.keep hk, fun r hr => (h5 r hr).keep hk⟩
theorem TokAt.mono {S S' : Nat → Prop} {w : World} {l : List Tk} {v : Value} (h : TokAt S w l v) (hS : ∀ b, S b → S' b) : TokAt S' w l v := by
  obtain ⟨R, A, c, h1, h2, h3, h4, h5⟩ := h
  exact ⟨R, A, c, h1, h2, h3, h4.mono hS, fun r hr => (h5 r hr).mono hS⟩
theorem TokAt.stay {w w' : World} {B : Nat} {l : List Tk} {v : Value} (h : TokAt (· < B) w l v) (hb : Below B w w') : TokAt (· < B) w' l v := h.keep (Kept.belowB hb fun _ h => h)
theorem TokAt.nil (S : Nat → Prop) (w : World) : TokAt S w [] (.slice none 0 0) := ⟨[], none, 0, rfl, rfl, Nat.le_refl _, Cells.nil _ _ _, by simp⟩
theorem TokAt.shape {S : Nat → Prop} {w : World} {l : List Tk} {v : Value} (h : TokAt S w l v) : ∃ A c, v = .slice A l.length c ∧ l.length ≤ c := by
  obtain ⟨R, A, c, h1, h2, h3, h4, h5⟩ := h
  exact ⟨A, c, h2, h3⟩
/-- A token's cells, and its attributes. -/
structure TkCell (S : Nat → Prop) (w : World) (b o : Nat) (t : Tk) (va : Value) : Prop where
  c0 : w.cell? ⟨b, o, none⟩ = some (.int .i64 t.kind)
  c1 : w.cell? ⟨b, o + 1, none⟩ = some (.string t.name)
  c2 : w.cell? ⟨b, o + 2, none⟩ = some va
  c3 : w.cell? ⟨b, o + 3, none⟩ = some (.string t.text)
  at_ : AttrsAt S w t.attrs va
theorem TokAt.open_ {S : Nat → Prop} {w : World} {l : List Tk} {v : Value} (h : TokAt S w l v) (hl : 0 < l.length) :
    ∃ b o c, v = .slice (some ⟨b, o, none⟩) l.length c ∧ l.length ≤ c ∧ S b ∧ ∀ k t, l[k]? = some t → ∃ va, TkCell S w b (o + k * 4) t va := by
  obtain ⟨R, A, c, h1, h2, h3, h4, h5⟩ := h
  have hR : R.length = l.length := by rw [← h1, List.length_map]
  obtain ⟨b, o, rfl, hS, hcell⟩ := h4 (by rw [tcells_length]; omega)
  refine ⟨b, o, c, h2, h3, hS, fun k t hk => ?_⟩
  rw [← h1, List.getElem?_map] at hk
  cases hr : R[k]? with
  | none => rw [hr] at hk; cases hk
  | some r =>
    rw [hr] at hk
    injection hk with hk
    subst hk
    have := tcells_at hr
    refine ⟨r.2, hcell _ _ this.1, ?_, ?_, ?_, h5 r (List.mem_of_getElem? hr)⟩
    · rw [Nat.add_assoc]; exact hcell _ _ this.2.1
    · rw [Nat.add_assoc]; exact hcell _ _ this.2.2.1
    · rw [Nat.add_assoc]; exact hcell _ _ this.2.2.2

/-- What token.Tokens hands back. -/
def ToksRet (s : ByteArray) (w : World) (e : Ending) (w' : World) : Prop :=
  ∃ v, e = .returned v ∧ TokAt (fun b => w.heap.size ≤ b ∧ b < w'.heap.size) w' (tokB s.data.toList) v ∧ Below w.heap.size w w'
/-- token.Tokens tells a right text's tokens. -/
def ToksSaid : Prop := ∀ (s : ByteArray) (w : World), Glob w → isB s.data.toList = true → s.size ≤ 1000000 → Calls Tryz.prog 120 #[.string s] w (ToksRet s w)

end Go.Proofs.YthmnnalamaponaaGreat

/- Part RefW. -/
namespace Go.Proofs.YthmnnalamaponaaGreat
open Go.RowKit
set_option linter.unusedVariables false

set_option maxHeartbeats 400000 in
theorem digit_any (r : Int) (w : World) (h0 : 0 ≤ r) (h1 : r ≤ 1114111) :
    Calls Tryz.prog 170 #[.int .i32 r] w fun e w' => e = .returned (.int .i32 (digR r)) ∧ w = w' := by
  by_cases a : 48 ≤ r ∧ r ≤ 57
  · have hd := Lib.hid (show digR r = r - 48 by unfold digR; rw [if_pos a])
    obtain ⟨a1, a2⟩ := a
    go_enter Tryz.func170, Tryz.ntmps170
    go_wp2
    go_ret
    exact ⟨ret_int hd.out.symm, rfl⟩
  by_cases b : 97 ≤ r ∧ r ≤ 102
  · have hd := Lib.hid (show digR r = r - 97 + 10 by unfold digR; rw [if_neg a, if_pos b])
    obtain ⟨b1, b2⟩ := b
    clear a
    go_enter Tryz.func170, Tryz.ntmps170
    go_wp2
    go_ret
    exact ⟨ret_int hd.out.symm, rfl⟩
  by_cases c : 65 ≤ r ∧ r ≤ 70
  · have hd := Lib.hid (show digR r = r - 65 + 10 by unfold digR; rw [if_neg a, if_neg b, if_pos c])
    obtain ⟨c1, c2⟩ := c
    clear a b
    go_enter Tryz.func170, Tryz.ntmps170
    go_wp2
    go_ret
    exact ⟨ret_int hd.out.symm, rfl⟩
  have hd := Lib.hid (show digR r = -1 by unfold digR; rw [if_neg a, if_neg b, if_neg c])
  rcases (show r < 48 ∨ (57 < r ∧ r < 65) ∨ (70 < r ∧ r < 97) ∨ 102 < r by omega) with h | ⟨h, h'⟩ | ⟨h, h'⟩ | h
  all_goals
    clear a b c
    go_enter Tryz.func170, Tryz.ntmps170
    go_wp2
    go_ret
    exact ⟨ret_int hd.out.symm, rfl⟩

theorem validR (r : Int) : Lib.validRune r = decide ((0 ≤ r ∧ r < 55296) ∨ (57343 < r ∧ r ≤ 1114111)) := by
  rfl

set_option maxHeartbeats 400000 in
theorem character_any (r : Int) (w : World) (h0 : 0 ≤ r) (h1 : r ≤ 100000000) :
    Calls Tryz.prog 166 #[.int .i32 r] w fun e w' => e = .returned (.int .i32 (charB r)) ∧ w = w' := by
  by_cases a : r = 0
  · subst a
    go_enter Tryz.func166, Tryz.ntmps166
    go_wp2_with fail
    go_ret
    exact ⟨ret_int rfl, rfl⟩
  by_cases b : r = 13
  · subst b
    go_enter Tryz.func166, Tryz.ntmps166
    go_wp2_with fail
    go_ret
    exact ⟨ret_int rfl, rfl⟩
  have B0 : (r == 0) = false := by simp [a]
  have B13 : (r == 13) = false := by simp [b]
  have hv := validR r
  by_cases c : (0 ≤ r ∧ r < 55296) ∨ (57343 < r ∧ r ≤ 1114111)
  · have hd := Lib.hid (show charB r = r by unfold charB; rw [if_neg (by omega)])
    rw [decide_eq_true c] at hv
    have HV := Lib.hid hv
    clear a b c hv
    go_enter Tryz.func166, Tryz.ntmps166
    go_wp2_with fail
    refine (Tryz.utf8_ValidRune r _).mono ?_
    rw [HV.out]
    rintro e w' ⟨rfl, rfl⟩
    go_wp2_with fail
    go_ret
    exact ⟨ret_int hd.out.symm, rfl⟩
  · have hd := Lib.hid (show charB r = 65533 by unfold charB; rw [if_pos (by omega)])
    rw [decide_eq_false c] at hv
    have HV := Lib.hid hv
    clear a b c hv
    go_enter Tryz.func166, Tryz.ntmps166
    go_wp2_with fail
    refine (Tryz.utf8_ValidRune r _).mono ?_
    rw [HV.out]
    rintro e w' ⟨rfl, rfl⟩
    go_wp2_with fail
    go_ret
    exact ⟨ret_int hd.out.symm, rfl⟩

end Go.Proofs.YthmnnalamaponaaGreat
