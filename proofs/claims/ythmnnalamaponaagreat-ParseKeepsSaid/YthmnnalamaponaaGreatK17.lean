/- Parts of the proof, in build order: TkO TkP TkQ TkR NamW. -/
import Derived.Test.YthmnnalamaponaaGreatK16
import Derived.Test.YthmnnalamaponaaGreatK14
import Derived.Test.YthmnnalamaponaaGreatK06

/- Part TkO. -/
namespace Go.Proofs.YthmnnalamaponaaGreat
open Go.RowKit
set_option linter.unusedVariables false

theorem tkv_agg (t : Tk) (va : Value) : tkv t va = .agg #[.int .i64 t.kind, .string t.name, va, .string t.text] := rfl
theorem cut_suf (l sep : List UInt8) : (Lib.cut l sep).2.1 <:+ l := by
  unfold Lib.cut
  split
  · exact List.drop_suffix _ _
  · exact List.nil_suffix
theorem drop_suf {l L : List UInt8} (h : L <:+ l) : l.drop (l.length - L.length) = L := by
  obtain ⟨t, rfl⟩ := h
  simp
theorem remark_tag (s mk : ByteArray) (k : Nat) (w : World) (hk : k ≤ s.size) (hm : s.size ≤ 1000000) (HG : Glob w) :
    Calls Tryz.prog 131 #[.string s, .int .i64 k, .string mk] w
      (TagRet (some (tkR (Lib.cut (s.data.toList.drop k) mk.data.toList).1)) (Lib.cut (s.data.toList.drop k) mk.data.toList).2.1 s.data.toList w) := by
  refine (remark_any s mk k w hk hm HG).mono ?_
  rintro e w' ⟨rfl, hb⟩
  have hsz : s.size = s.data.toList.length := str_list s
  refine ⟨.slice none 0 0, _, rfl, by rw [hsz]; omega, ?_, AttrsAt.nil _ _, hb⟩
  rw [hsz]
  exact drop_suf ((cut_suf _ _).trans (List.drop_suffix _ _))

theorem kept_set4 {S : Nat → Prop} {W : World} {k : Nat} (hS : ∀ b, S b → b ≠ k) (a b c d : Value) : Kept S W ((((W.setCell ⟨k, 0, none⟩ a).setCell ⟨k, 1, none⟩ b).setCell ⟨k, 2, none⟩ c).setCell ⟨k, 3, none⟩ d) := by
  intro g hg j
  have hne := hS g hg
  have one : ∀ (W : World) (i : Nat) (x : Value), (W.setCell ⟨k, i, none⟩ x).cell? ⟨g, j, none⟩ = W.cell? ⟨g, j, none⟩ := fun W i x => World.cell?_setCell_other _ _ _ _ (by intro e; injection e with e; exact hne e.symm)
  rw [one, one, one, one]
theorem tag_fin {w w1 w2 : World} {o : Option Tk} {rest l : List UInt8} {va : Value} {n : Nat} (hb1 : Below w.heap.size w w1) (hlt : w.heap.size < w1.heap.size) (hn : n ≤ l.length) (hd : l.drop n = rest)
    (hat : AttrsAt (fun b => w1.heap.size ≤ b ∧ b < w2.heap.size) w2 (o.getD tk0).attrs va) (hb2 : Below w1.heap.size w1 w2) (a b c d : Value) :
    TagRet o rest l w (.returned (.tuple #[tkv (o.getD tk0) va, .int .i64 n])) ((((w2.setCell ⟨w.heap.size, 0, none⟩ a).setCell ⟨w.heap.size, 1, none⟩ b).setCell ⟨w.heap.size, 2, none⟩ c).setCell ⟨w.heap.size, 3, none⟩ d) := by
  refine ⟨va, n, rfl, hn, hd, ?_, set4 (below_after hb1 hb2) _ _ _ _⟩
  exact (hat.keep (kept_set4 (k := w.heap.size) (fun b hb => by omega) a b c d)).mono fun b hb => ⟨by omega, by simpa using hb.2⟩

set_option maxHeartbeats 2000000 in
set_option maxRecDepth 100000 in
/-- What no tag begins. -/
theorem tag_none (s : ByteArray) (w : World) (hm : s.size ≤ 1000000) (hs : startsB s.data.toList = false) :
    Calls Tryz.prog 121 #[.string s] w fun e w' => e = .returned (.tuple #[tkv tk0 (.slice none 0 0), .int .i64 0]) ∧ Below w.heap.size w w' := by
  have h := fun W => starts_any s W (by unfold maxLen; omega)
  rw [hs] at h
  have H := Lib.hid h
  clear h hs
  go_enter Tryz.func121, Tryz.ntmps121
  go_wp2_with fail
  refine (H.out _).mono ?_
  rintro e w1 ⟨rfl, rfl⟩
  go_wp2_with fail
  refine bodyPost_ret (v := .tuple #[.agg #[.int .i64 0, .string ⟨#[]⟩, .slice none 0 0, .string ⟨#[]⟩], .int .i64 0]) ?_ rfl ⟨rfl, below_new _ _⟩
  simp [results, Tryz.f121, go_sem]

/-- The second and the third byte. -/
theorem byte_at1 {s : ByteArray} {l : List UInt8} (hl : s.data.toList = l) {k : Nat} {c : UInt8} (hk : l[k]? = some c) : ∃ h : k < s.size, ((s[k]'h).toNat : Int) = c.toNat := by
  have hlt : k < s.size := by rw [str_list, hl]; exact (List.getElem?_eq_some_iff.1 hk).1
  refine ⟨hlt, ?_⟩
  have e := starts_at0 hl k hlt
  rw [hk] at e
  injection e with e
  rw [e]

set_option maxHeartbeats 2000000 in
set_option maxRecDepth 100000 in
theorem tag_begin (s : ByteArray) (c : UInt8) (r : List UInt8) (w : World) (hm : s.size ≤ 1000000) (hs : s.data.toList = 60 :: c :: r) (hc : letC c = true) :
    Calls Tryz.prog 121 #[.string s] w (TagRet (tagB (60 :: c :: r)).1 (tagB (60 :: c :: r)).2 (60 :: c :: r) w) := by
  have hst : startsB (60 :: c :: r) = true := by simp [startsB, hc]
  have h := fun W => starts_any s W (by unfold maxLen; omega)
  rw [hs, hst] at h
  have hl := fun W => letter_any (c.toNat : Int) W
  rw [letZ_byte, hc] at hl
  obtain ⟨hlt, g1⟩ := byte_at1 hs (k := 1) (c := c) rfl
  have hb := fun W => tkbegin_any s 60 (c :: r) hs W hm
  rw [hs] at hb
  have htb : tagB (60 :: c :: r) = ((attsOf [] ((c :: r).dropWhile tagC)).map (fun x => tkB (((c :: r).takeWhile tagC).map lowB) x.1), ((attsOf [] ((c :: r).dropWhile tagC)).map (·.2)).getD []) := by
    rw [tagB_letter hc]
    cases attsOf [] ((c :: r).dropWhile tagC) <;> rfl
  have hb2 : ∀ W, Calls Tryz.prog 129 #[.string s] W (TagRet (tagB (60 :: c :: r)).1 (tagB (60 :: c :: r)).2 (60 :: c :: r) W) := fun W => by
    rw [htb]
    exact hb W
  obtain ⟨T, hT⟩ : ∃ T, tagB (60 :: c :: r) = T := ⟨_, rfl⟩
  rw [hT] at hb2 ⊢
  obtain ⟨o, rest⟩ := T
  have hcb := c.toNat_lt
  have q1 : (0 : Int) ≤ c.toNat := by omega
  have q2 : (c.toNat : Int) < 256 := by omega
  have H := Lib.hid h
  have HL := Lib.hid hl
  have HB := Lib.hid hb2
  generalize (c.toNat : Int) = y at g1 q1 q2 HL
  clear h hl hb hb2 hst htb hT hs hc hcb
  go_enter Tryz.func121, Tryz.ntmps121
  go_wp2_with fail
  refine (H.out _).mono ?_
  rintro e w1 ⟨rfl, rfl⟩
  go_wp2_with fail
  refine (HL.out _).mono ?_
  rintro e w1 ⟨rfl, rfl⟩
  go_wp2_with fail
  refine (HB.out _).mono ?_
  rintro e w2 ⟨va, n, rfl, hn, hd, hat, hb⟩
  obtain ⟨A, cc, rfl, _⟩ := id hat
  have hbx := box_on (box_here w #[.int .i64 0, .string ⟨#[]⟩, .slice none 0 0, .string ⟨#[]⟩] 129) hb
  have d0 : w2.cell? ⟨w.heap.size, 0, none⟩ = some (.int .i64 0) := cell_at hbx 0
  have d1 : w2.cell? ⟨w.heap.size, 1, none⟩ = some (.string ⟨#[]⟩) := cell_at hbx 1
  have d2 : w2.cell? ⟨w.heap.size, 2, none⟩ = some (.slice none 0 0) := cell_at hbx 2
  have d3 : w2.cell? ⟨w.heap.size, 3, none⟩ = some (.string ⟨#[]⟩) := cell_at hbx 3
  have f0 := froz_at hbx 0
  have f1 := froz_at hbx 1
  have f2 := froz_at hbx 2
  have f3 := froz_at hbx 3
  have HF := Lib.hid (fun a b c d => tag_fin (w := w) (below_new w _) (by simp) hn hd hat hb a b c d)
  clear hbx hn hd hat hb
  rw [tkv_agg]
  rw [tkv_agg] at HF
  generalize (o.getD tk0).kind = k1 at *
  generalize (o.getD tk0).name = k2 at *
  generalize (o.getD tk0).attrs.length = k3 at *
  generalize (o.getD tk0).text = k4 at *
  go_wp2_with fail
  refine bodyPost_ret (v := .tuple #[.agg #[.int .i64 k1, .string k2, .slice A k3 cc, .string k4], .int .i64 n]) ?_ rfl (HF.out _ _ _ _)
  simp [results, Tryz.f121, go_sem, d0, d1, d2, d3]

end Go.Proofs.YthmnnalamaponaaGreat

/- Part TkP. -/
namespace Go.Proofs.YthmnnalamaponaaGreat
open Go.RowKit
set_option linter.unusedVariables false

set_option maxHeartbeats 2000000 in
set_option maxRecDepth 100000 in
/-- An ending tag. -/
theorem tag_end (s : ByteArray) (l : List UInt8) (c : UInt8) (w : World) (hm : s.size ≤ 1000000) (hs : s.data.toList = l) (hst : startsB l = true) (h1 : l[1]? = some c) (hc : letC c = false) (hg : c = 47) (d : UInt8) (h2 : l[2]? = some d) (hd : letC d = true)
    (o : Option Tk) (rest : List UInt8) (hcall : ∀ W, Below w.heap.size w W → Calls Tryz.prog 130 #[.string s] W (TagRet o rest l W)) :
    Calls Tryz.prog 121 #[.string s] w (TagRet o rest l w) := by
  have h := fun W => starts_any s W (by unfold maxLen; omega)
  rw [hs, hst] at h
  have hl := fun W => letter_any (c.toNat : Int) W
  rw [letZ_byte, hc] at hl
  obtain ⟨hlt, g1⟩ := byte_at1 hs (k := 1) (c := c) h1
  have hl3' := fun W => letter_any (d.toNat : Int) W
  rw [letZ_byte, hd] at hl3'
  obtain ⟨hlt2, g2⟩ := byte_at1 hs (k := 2) (c := d) h2
  have hlt2' : (2 : Int) < (s.size : Int) := by omega
  have hdb := d.toNat_lt
  have z1 : (0 : Int) ≤ d.toNat := by omega
  have z2 : (d.toNat : Int) < 256 := by omega
  have HL3 := Lib.hid hl3'
  have hcb := c.toNat_lt
  have q1 : (0 : Int) ≤ c.toNat := by omega
  have q2 : (c.toNat : Int) < 256 := by omega
  have H := Lib.hid h
  have HL := Lib.hid hl
  have hy : (c.toNat : Int) = 47 := by rw [hg]; rfl
  rw [hy] at g1 HL
  generalize (d.toNat : Int) = z at g2 z1 z2 HL3
  have HB := Lib.hid (hcall _ (below_new w (.cells #[.int .i64 0, .string ⟨#[]⟩, .slice none 0 0, .string ⟨#[]⟩] 129)))
  clear h hl hst hs hc hcb hg h1 hy q1 q2 hl3' hdb hd h2 hcall
  go_enter Tryz.func121, Tryz.ntmps121
  go_wp2_with fail
  refine (H.out _).mono ?_
  rintro e w1 ⟨rfl, rfl⟩
  go_wp2_with fail
  refine (HL.out _).mono ?_
  rintro e w1 ⟨rfl, rfl⟩
  go_wp2_with fail
  refine (HL3.out _).mono ?_
  rintro e w1 ⟨rfl, rfl⟩
  go_wp2_with fail
  refine HB.out.mono ?_
  rintro e w2 ⟨va, n, rfl, hn, hd, hat, hb⟩
  obtain ⟨A, cc, rfl, _⟩ := id hat
  have hbx := box_on (box_here w #[.int .i64 0, .string ⟨#[]⟩, .slice none 0 0, .string ⟨#[]⟩] 129) hb
  have d0 : w2.cell? ⟨w.heap.size, 0, none⟩ = some (.int .i64 0) := cell_at hbx 0
  have d1 : w2.cell? ⟨w.heap.size, 1, none⟩ = some (.string ⟨#[]⟩) := cell_at hbx 1
  have d2 : w2.cell? ⟨w.heap.size, 2, none⟩ = some (.slice none 0 0) := cell_at hbx 2
  have d3 : w2.cell? ⟨w.heap.size, 3, none⟩ = some (.string ⟨#[]⟩) := cell_at hbx 3
  have f0 := froz_at hbx 0
  have f1 := froz_at hbx 1
  have f2 := froz_at hbx 2
  have f3 := froz_at hbx 3
  have HF := Lib.hid (fun a b c d => tag_fin (w := w) (below_new w _) (by simp) hn hd hat hb a b c d)
  clear hbx hn hd hat hb
  rw [tkv_agg]
  rw [tkv_agg] at HF
  generalize (o.getD tk0).kind = k1 at *
  generalize (o.getD tk0).name = k2 at *
  generalize (o.getD tk0).attrs.length = k3 at *
  generalize (o.getD tk0).text = k4 at *
  go_wp2_with fail
  refine bodyPost_ret (v := .tuple #[.agg #[.int .i64 k1, .string k2, .slice A k3 cc, .string k4], .int .i64 n]) ?_ rfl (HF.out _ _ _ _)
  simp [results, Tryz.f121, go_sem, d0, d1, d2, d3]

set_option maxHeartbeats 2000000 in
set_option maxRecDepth 100000 in
/-- </>. -/
theorem tag_nil (s : ByteArray) (l : List UInt8) (c : UInt8) (w : World) (hm : s.size ≤ 1000000) (hs : s.data.toList = l) (hst : startsB l = true) (h1 : l[1]? = some c) (hc : letC c = false) (hg : c = 47) (d : UInt8) (h2 : l[2]? = some d) (hd : letC d = false) (hp3 : Lib.hasPrefix l [60, 47, 62] = true)
    (rest : List UInt8) (hrest : l.drop 3 = rest) (hl3 : 3 ≤ l.length) :
    Calls Tryz.prog 121 #[.string s] w (TagRet none rest l w) := by
  have h := fun W => starts_any s W (by unfold maxLen; omega)
  rw [hs, hst] at h
  have hl := fun W => letter_any (c.toNat : Int) W
  rw [letZ_byte, hc] at hl
  obtain ⟨hlt, g1⟩ := byte_at1 hs (k := 1) (c := c) h1
  have hl3' := fun W => letter_any (d.toNat : Int) W
  rw [letZ_byte, hd] at hl3'
  obtain ⟨hlt2, g2⟩ := byte_at1 hs (k := 2) (c := d) h2
  have hlt2' : (2 : Int) < (s.size : Int) := by omega
  have hdb := d.toNat_lt
  have z1 : (0 : Int) ≤ d.toNat := by omega
  have z2 : (d.toNat : Int) < 256 := by omega
  have HL3 := Lib.hid hl3'
  have hq3 := fun W => Tryz.strings_HasPrefix s ⟨#[60, 47, 62]⟩ W
  rw [hs, hp3] at hq3
  have HQ3 := Lib.hid hq3
  have hcb := c.toNat_lt
  have q1 : (0 : Int) ≤ c.toNat := by omega
  have q2 : (c.toNat : Int) < 256 := by omega
  have H := Lib.hid h
  have HL := Lib.hid hl
  have hy : (c.toNat : Int) = 47 := by rw [hg]; rfl
  rw [hy] at g1 HL
  generalize (d.toNat : Int) = z at g2 z1 z2 HL3
  clear h hl hst hs hc hcb hg h1 hy q1 q2 hl3' hdb hd h2 hq3 hp3
  go_enter Tryz.func121, Tryz.ntmps121
  go_wp2_with fail
  refine (H.out _).mono ?_
  rintro e w1 ⟨rfl, rfl⟩
  go_wp2_with fail
  refine (HL.out _).mono ?_
  rintro e w1 ⟨rfl, rfl⟩
  go_wp2_with fail
  refine (HL3.out _).mono ?_
  rintro e w1 ⟨rfl, rfl⟩
  go_wp2_with fail
  refine (HQ3.out _).mono ?_
  rintro e w1 ⟨rfl, rfl⟩
  go_wp2_with fail
  refine bodyPost_ret (v := .tuple #[.agg #[.int .i64 0, .string ⟨#[]⟩, .slice none 0 0, .string ⟨#[]⟩], .int .i64 3]) ?_ rfl ⟨.slice none 0 0, 3, rfl, hl3, hrest, AttrsAt.nil _ _, below_new _ _⟩
  simp [results, Tryz.f121, go_sem]

set_option maxHeartbeats 2000000 in
set_option maxRecDepth 100000 in
/-- A comment up to the next >. -/
theorem tag_gt1 (s : ByteArray) (l : List UInt8) (c : UInt8) (w : World) (hm : s.size ≤ 1000000) (hs : s.data.toList = l) (hst : startsB l = true) (h1 : l[1]? = some c) (hc : letC c = false) (hg : c ≠ 47) (hp3 : Lib.hasPrefix l [60, 47, 62] = false) (hp4 : Lib.hasPrefix l [60, 33, 45, 45] = false) (HG : Glob w)
    (o : Option Tk) (rest : List UInt8) (hcall : ∀ W, Below w.heap.size w W → Calls Tryz.prog 131 #[.string s, .int .i64 2, .string ⟨#[62]⟩] W (TagRet o rest l W)) :
    Calls Tryz.prog 121 #[.string s] w (TagRet o rest l w) := by
  have h := fun W => starts_any s W (by unfold maxLen; omega)
  rw [hs, hst] at h
  have hl := fun W => letter_any (c.toNat : Int) W
  rw [letZ_byte, hc] at hl
  obtain ⟨hlt, g1⟩ := byte_at1 hs (k := 1) (c := c) h1
  have hq3 := fun W => Tryz.strings_HasPrefix s ⟨#[60, 47, 62]⟩ W
  rw [hs, hp3] at hq3
  have HQ3 := Lib.hid hq3
  have hq4 := fun W => Tryz.strings_HasPrefix s ⟨#[60, 33, 45, 45]⟩ W
  rw [hs, hp4] at hq4
  have HQ4 := Lib.hid hq4
  have hcb := c.toNat_lt
  have q1 : (0 : Int) ≤ c.toNat := by omega
  have q2 : (c.toNat : Int) < 256 := by omega
  have H := Lib.hid h
  have HL := Lib.hid hl
  have B1 : ((c.toNat : Int) == 47) = false := by
    rw [beq_eq_false_iff_ne]
    intro e
    exact hg (UInt8.toNat_inj.1 (show c.toNat = 47 by omega))
  generalize (c.toNat : Int) = y at g1 q1 q2 HL B1
  have HB := Lib.hid (hcall _ (below_new w (.cells #[.int .i64 0, .string ⟨#[]⟩, .slice none 0 0, .string ⟨#[]⟩] 129)))
  clear h hl hst hs hc hcb hg h1 hq3 hp3 hq4 hp4 hcall
  go_enter Tryz.func121, Tryz.ntmps121
  go_wp2_with fail
  refine (H.out _).mono ?_
  rintro e w1 ⟨rfl, rfl⟩
  go_wp2_with fail
  refine (HL.out _).mono ?_
  rintro e w1 ⟨rfl, rfl⟩
  go_wp2_with fail
  refine (HQ3.out _).mono ?_
  rintro e w1 ⟨rfl, rfl⟩
  go_wp2_with fail
  refine (HQ4.out _).mono ?_
  rintro e w1 ⟨rfl, rfl⟩
  go_wp2_with fail
  refine HB.out.mono ?_
  rintro e w2 ⟨va, n, rfl, hn, hd, hat, hb⟩
  obtain ⟨A, cc, rfl, _⟩ := id hat
  have hbx := box_on (box_here w #[.int .i64 0, .string ⟨#[]⟩, .slice none 0 0, .string ⟨#[]⟩] 129) hb
  have d0 : w2.cell? ⟨w.heap.size, 0, none⟩ = some (.int .i64 0) := cell_at hbx 0
  have d1 : w2.cell? ⟨w.heap.size, 1, none⟩ = some (.string ⟨#[]⟩) := cell_at hbx 1
  have d2 : w2.cell? ⟨w.heap.size, 2, none⟩ = some (.slice none 0 0) := cell_at hbx 2
  have d3 : w2.cell? ⟨w.heap.size, 3, none⟩ = some (.string ⟨#[]⟩) := cell_at hbx 3
  have f0 := froz_at hbx 0
  have f1 := froz_at hbx 1
  have f2 := froz_at hbx 2
  have f3 := froz_at hbx 3
  have HF := Lib.hid (fun a b c d => tag_fin (w := w) (below_new w _) (by simp) hn hd hat hb a b c d)
  clear hbx hn hd hat hb
  rw [tkv_agg]
  rw [tkv_agg] at HF
  generalize (o.getD tk0).kind = k1 at *
  generalize (o.getD tk0).name = k2 at *
  generalize (o.getD tk0).attrs.length = k3 at *
  generalize (o.getD tk0).text = k4 at *
  go_wp2_with fail
  refine bodyPost_ret (v := .tuple #[.agg #[.int .i64 k1, .string k2, .slice A k3 cc, .string k4], .int .i64 n]) ?_ rfl (HF.out _ _ _ _)
  simp [results, Tryz.f121, go_sem, d0, d1, d2, d3]

set_option maxHeartbeats 2000000 in
set_option maxRecDepth 100000 in
/-- Likewise, where </ ends the text. -/
theorem tag_gt2 (s : ByteArray) (l : List UInt8) (c : UInt8) (w : World) (hm : s.size ≤ 1000000) (hs : s.data.toList = l) (hst : startsB l = true) (h1 : l[1]? = some c) (hc : letC c = false) (hg : c = 47) (hz : s.size = 2) (hp3 : Lib.hasPrefix l [60, 47, 62] = false) (hp4 : Lib.hasPrefix l [60, 33, 45, 45] = false) (HG : Glob w)
    (o : Option Tk) (rest : List UInt8) (hcall : ∀ W, Below w.heap.size w W → Calls Tryz.prog 131 #[.string s, .int .i64 2, .string ⟨#[62]⟩] W (TagRet o rest l W)) :
    Calls Tryz.prog 121 #[.string s] w (TagRet o rest l w) := by
  have h := fun W => starts_any s W (by unfold maxLen; omega)
  rw [hs, hst] at h
  have hl := fun W => letter_any (c.toNat : Int) W
  rw [letZ_byte, hc] at hl
  obtain ⟨hlt, g1⟩ := byte_at1 hs (k := 1) (c := c) h1
  have hq3 := fun W => Tryz.strings_HasPrefix s ⟨#[60, 47, 62]⟩ W
  rw [hs, hp3] at hq3
  have HQ3 := Lib.hid hq3
  have hq4 := fun W => Tryz.strings_HasPrefix s ⟨#[60, 33, 45, 45]⟩ W
  rw [hs, hp4] at hq4
  have HQ4 := Lib.hid hq4
  have hcb := c.toNat_lt
  have q1 : (0 : Int) ≤ c.toNat := by omega
  have q2 : (c.toNat : Int) < 256 := by omega
  have H := Lib.hid h
  have HL := Lib.hid hl
  have hy : (c.toNat : Int) = 47 := by rw [hg]; rfl
  rw [hy] at g1 HL
  have hz2 : decide ((2 : Int) < (s.size : Int)) = false := by rw [decide_eq_false_iff_not]; omega
  have HB := Lib.hid (hcall _ (below_new w (.cells #[.int .i64 0, .string ⟨#[]⟩, .slice none 0 0, .string ⟨#[]⟩] 129)))
  clear h hl hst hs hc hcb hg h1 hy q1 q2 hz hq3 hp3 hq4 hp4 hcall
  go_enter Tryz.func121, Tryz.ntmps121
  go_wp2_with fail
  refine (H.out _).mono ?_
  rintro e w1 ⟨rfl, rfl⟩
  go_wp2_with fail
  refine (HL.out _).mono ?_
  rintro e w1 ⟨rfl, rfl⟩
  go_wp2_with fail
  refine (HQ3.out _).mono ?_
  rintro e w1 ⟨rfl, rfl⟩
  go_wp2_with fail
  refine (HQ4.out _).mono ?_
  rintro e w1 ⟨rfl, rfl⟩
  go_wp2_with fail
  refine HB.out.mono ?_
  rintro e w2 ⟨va, n, rfl, hn, hd, hat, hb⟩
  obtain ⟨A, cc, rfl, _⟩ := id hat
  have hbx := box_on (box_here w #[.int .i64 0, .string ⟨#[]⟩, .slice none 0 0, .string ⟨#[]⟩] 129) hb
  have d0 : w2.cell? ⟨w.heap.size, 0, none⟩ = some (.int .i64 0) := cell_at hbx 0
  have d1 : w2.cell? ⟨w.heap.size, 1, none⟩ = some (.string ⟨#[]⟩) := cell_at hbx 1
  have d2 : w2.cell? ⟨w.heap.size, 2, none⟩ = some (.slice none 0 0) := cell_at hbx 2
  have d3 : w2.cell? ⟨w.heap.size, 3, none⟩ = some (.string ⟨#[]⟩) := cell_at hbx 3
  have f0 := froz_at hbx 0
  have f1 := froz_at hbx 1
  have f2 := froz_at hbx 2
  have f3 := froz_at hbx 3
  have HF := Lib.hid (fun a b c d => tag_fin (w := w) (below_new w _) (by simp) hn hd hat hb a b c d)
  clear hbx hn hd hat hb
  rw [tkv_agg]
  rw [tkv_agg] at HF
  generalize (o.getD tk0).kind = k1 at *
  generalize (o.getD tk0).name = k2 at *
  generalize (o.getD tk0).attrs.length = k3 at *
  generalize (o.getD tk0).text = k4 at *
  go_wp2_with fail
  refine bodyPost_ret (v := .tuple #[.agg #[.int .i64 k1, .string k2, .slice A k3 cc, .string k4], .int .i64 n]) ?_ rfl (HF.out _ _ _ _)
  simp [results, Tryz.f121, go_sem, d0, d1, d2, d3]

set_option maxHeartbeats 2000000 in
set_option maxRecDepth 100000 in
/-- Likewise, where </ and no letter begin it. -/
theorem tag_gt3 (s : ByteArray) (l : List UInt8) (c : UInt8) (w : World) (hm : s.size ≤ 1000000) (hs : s.data.toList = l) (hst : startsB l = true) (h1 : l[1]? = some c) (hc : letC c = false) (hg : c = 47) (d : UInt8) (h2 : l[2]? = some d) (hd : letC d = false) (hp3 : Lib.hasPrefix l [60, 47, 62] = false) (hp4 : Lib.hasPrefix l [60, 33, 45, 45] = false) (HG : Glob w)
    (o : Option Tk) (rest : List UInt8) (hcall : ∀ W, Below w.heap.size w W → Calls Tryz.prog 131 #[.string s, .int .i64 2, .string ⟨#[62]⟩] W (TagRet o rest l W)) :
    Calls Tryz.prog 121 #[.string s] w (TagRet o rest l w) := by
  have h := fun W => starts_any s W (by unfold maxLen; omega)
  rw [hs, hst] at h
  have hl := fun W => letter_any (c.toNat : Int) W
  rw [letZ_byte, hc] at hl
  obtain ⟨hlt, g1⟩ := byte_at1 hs (k := 1) (c := c) h1
  have hl3' := fun W => letter_any (d.toNat : Int) W
  rw [letZ_byte, hd] at hl3'
  obtain ⟨hlt2, g2⟩ := byte_at1 hs (k := 2) (c := d) h2
  have hlt2' : (2 : Int) < (s.size : Int) := by omega
  have hdb := d.toNat_lt
  have z1 : (0 : Int) ≤ d.toNat := by omega
  have z2 : (d.toNat : Int) < 256 := by omega
  have HL3 := Lib.hid hl3'
  have hq3 := fun W => Tryz.strings_HasPrefix s ⟨#[60, 47, 62]⟩ W
  rw [hs, hp3] at hq3
  have HQ3 := Lib.hid hq3
  have hq4 := fun W => Tryz.strings_HasPrefix s ⟨#[60, 33, 45, 45]⟩ W
  rw [hs, hp4] at hq4
  have HQ4 := Lib.hid hq4
  have hcb := c.toNat_lt
  have q1 : (0 : Int) ≤ c.toNat := by omega
  have q2 : (c.toNat : Int) < 256 := by omega
  have H := Lib.hid h
  have HL := Lib.hid hl
  have hy : (c.toNat : Int) = 47 := by rw [hg]; rfl
  rw [hy] at g1 HL
  generalize (d.toNat : Int) = z at g2 z1 z2 HL3
  have HB := Lib.hid (hcall _ (below_new w (.cells #[.int .i64 0, .string ⟨#[]⟩, .slice none 0 0, .string ⟨#[]⟩] 129)))
  clear h hl hst hs hc hcb hg h1 hy q1 q2 hl3' hdb hd h2 hq3 hp3 hq4 hp4 hcall
  go_enter Tryz.func121, Tryz.ntmps121
  go_wp2_with fail
  refine (H.out _).mono ?_
  rintro e w1 ⟨rfl, rfl⟩
  go_wp2_with fail
  refine (HL.out _).mono ?_
  rintro e w1 ⟨rfl, rfl⟩
  go_wp2_with fail
  refine (HL3.out _).mono ?_
  rintro e w1 ⟨rfl, rfl⟩
  go_wp2_with fail
  refine (HQ3.out _).mono ?_
  rintro e w1 ⟨rfl, rfl⟩
  go_wp2_with fail
  refine (HQ4.out _).mono ?_
  rintro e w1 ⟨rfl, rfl⟩
  go_wp2_with fail
  refine HB.out.mono ?_
  rintro e w2 ⟨va, n, rfl, hn, hd, hat, hb⟩
  obtain ⟨A, cc, rfl, _⟩ := id hat
  have hbx := box_on (box_here w #[.int .i64 0, .string ⟨#[]⟩, .slice none 0 0, .string ⟨#[]⟩] 129) hb
  have d0 : w2.cell? ⟨w.heap.size, 0, none⟩ = some (.int .i64 0) := cell_at hbx 0
  have d1 : w2.cell? ⟨w.heap.size, 1, none⟩ = some (.string ⟨#[]⟩) := cell_at hbx 1
  have d2 : w2.cell? ⟨w.heap.size, 2, none⟩ = some (.slice none 0 0) := cell_at hbx 2
  have d3 : w2.cell? ⟨w.heap.size, 3, none⟩ = some (.string ⟨#[]⟩) := cell_at hbx 3
  have f0 := froz_at hbx 0
  have f1 := froz_at hbx 1
  have f2 := froz_at hbx 2
  have f3 := froz_at hbx 3
  have HF := Lib.hid (fun a b c d => tag_fin (w := w) (below_new w _) (by simp) hn hd hat hb a b c d)
  clear hbx hn hd hat hb
  rw [tkv_agg]
  rw [tkv_agg] at HF
  generalize (o.getD tk0).kind = k1 at *
  generalize (o.getD tk0).name = k2 at *
  generalize (o.getD tk0).attrs.length = k3 at *
  generalize (o.getD tk0).text = k4 at *
  go_wp2_with fail
  refine bodyPost_ret (v := .tuple #[.agg #[.int .i64 k1, .string k2, .slice A k3 cc, .string k4], .int .i64 n]) ?_ rfl (HF.out _ _ _ _)
  simp [results, Tryz.f121, go_sem, d0, d1, d2, d3]

set_option maxHeartbeats 2000000 in
set_option maxRecDepth 100000 in
/-- A comment up to -->. -/
theorem tag_cmt (s : ByteArray) (l : List UInt8) (c : UInt8) (w : World) (hm : s.size ≤ 1000000) (hs : s.data.toList = l) (hst : startsB l = true) (h1 : l[1]? = some c) (hc : letC c = false) (hg : c ≠ 47) (hp3 : Lib.hasPrefix l [60, 47, 62] = false) (hp4 : Lib.hasPrefix l [60, 33, 45, 45] = true) (HG : Glob w) (hz4 : 4 ≤ s.size)
    (o : Option Tk) (rest : List UInt8) (hcall : ∀ W, Below w.heap.size w W → Calls Tryz.prog 131 #[.string s, .int .i64 4, .string ⟨#[45, 45, 62]⟩] W (TagRet o rest l W)) :
    Calls Tryz.prog 121 #[.string s] w (TagRet o rest l w) := by
  have h := fun W => starts_any s W (by unfold maxLen; omega)
  rw [hs, hst] at h
  have hl := fun W => letter_any (c.toNat : Int) W
  rw [letZ_byte, hc] at hl
  obtain ⟨hlt, g1⟩ := byte_at1 hs (k := 1) (c := c) h1
  have hq3 := fun W => Tryz.strings_HasPrefix s ⟨#[60, 47, 62]⟩ W
  rw [hs, hp3] at hq3
  have HQ3 := Lib.hid hq3
  have hq4 := fun W => Tryz.strings_HasPrefix s ⟨#[60, 33, 45, 45]⟩ W
  rw [hs, hp4] at hq4
  have HQ4 := Lib.hid hq4
  have hcb := c.toNat_lt
  have q1 : (0 : Int) ≤ c.toNat := by omega
  have q2 : (c.toNat : Int) < 256 := by omega
  have H := Lib.hid h
  have HL := Lib.hid hl
  have B1 : ((c.toNat : Int) == 47) = false := by
    rw [beq_eq_false_iff_ne]
    intro e
    exact hg (UInt8.toNat_inj.1 (show c.toNat = 47 by omega))
  generalize (c.toNat : Int) = y at g1 q1 q2 HL B1
  have HB := Lib.hid (hcall _ (below_new w (.cells #[.int .i64 0, .string ⟨#[]⟩, .slice none 0 0, .string ⟨#[]⟩] 129)))
  clear h hl hst hs hc hcb hg h1 hq3 hp3 hq4 hp4 hcall
  go_enter Tryz.func121, Tryz.ntmps121
  go_wp2_with fail
  refine (H.out _).mono ?_
  rintro e w1 ⟨rfl, rfl⟩
  go_wp2_with fail
  refine (HL.out _).mono ?_
  rintro e w1 ⟨rfl, rfl⟩
  go_wp2_with fail
  refine (HQ3.out _).mono ?_
  rintro e w1 ⟨rfl, rfl⟩
  go_wp2_with fail
  refine (HQ4.out _).mono ?_
  rintro e w1 ⟨rfl, rfl⟩
  go_wp2_with fail
  refine HB.out.mono ?_
  rintro e w2 ⟨va, n, rfl, hn, hd, hat, hb⟩
  obtain ⟨A, cc, rfl, _⟩ := id hat
  have hbx := box_on (box_here w #[.int .i64 0, .string ⟨#[]⟩, .slice none 0 0, .string ⟨#[]⟩] 129) hb
  have d0 : w2.cell? ⟨w.heap.size, 0, none⟩ = some (.int .i64 0) := cell_at hbx 0
  have d1 : w2.cell? ⟨w.heap.size, 1, none⟩ = some (.string ⟨#[]⟩) := cell_at hbx 1
  have d2 : w2.cell? ⟨w.heap.size, 2, none⟩ = some (.slice none 0 0) := cell_at hbx 2
  have d3 : w2.cell? ⟨w.heap.size, 3, none⟩ = some (.string ⟨#[]⟩) := cell_at hbx 3
  have f0 := froz_at hbx 0
  have f1 := froz_at hbx 1
  have f2 := froz_at hbx 2
  have f3 := froz_at hbx 3
  have HF := Lib.hid (fun a b c d => tag_fin (w := w) (below_new w _) (by simp) hn hd hat hb a b c d)
  clear hbx hn hd hat hb
  rw [tkv_agg]
  rw [tkv_agg] at HF
  generalize (o.getD tk0).kind = k1 at *
  generalize (o.getD tk0).name = k2 at *
  generalize (o.getD tk0).attrs.length = k3 at *
  generalize (o.getD tk0).text = k4 at *
  go_wp2_with fail
  refine bodyPost_ret (v := .tuple #[.agg #[.int .i64 k1, .string k2, .slice A k3 cc, .string k4], .int .i64 n]) ?_ rfl (HF.out _ _ _ _)
  simp [results, Tryz.f121, go_sem, d0, d1, d2, d3]

end Go.Proofs.YthmnnalamaponaaGreat

/- Part TkQ. -/
namespace Go.Proofs.YthmnnalamaponaaGreat
open Go.RowKit
set_option linter.unusedVariables false

theorem pre_no3 {l : List UInt8} {a b c d e : UInt8} {r : List UInt8} (hl : l = 60 :: a :: r) (h : a ≠ b) : Lib.hasPrefix l (60 :: b :: [c]) = false ∧ Lib.hasPrefix l (60 :: b :: [c, d]) = false := by
  subst hl
  have hb : (b == a) = false := by rw [beq_eq_false_iff_ne]; exact fun e => h e.symm
  constructor
  · show ((60 == 60) && ((b == a) && _)) = false
    rw [hb, Bool.false_and, Bool.and_false]
  · show ((60 == 60) && ((b == a) && _)) = false
    rw [hb, Bool.false_and, Bool.and_false]

theorem gt_call {s : ByteArray} {l : List UInt8} (hs : s.data.toList = l) (hm : s.size ≤ 1000000) (h2 : 2 ≤ l.length) {w : World} (HG : Glob w) :
    ∀ W, Below w.heap.size w W → Calls Tryz.prog 131 #[.string s, .int .i64 2, .string ⟨#[62]⟩] W (TagRet (some (tkR (upTo1 (l.drop 2)).1)) (upTo1 (l.drop 2)).2 l W) := by
  intro W hb
  have h := remark_tag s ⟨#[62]⟩ 2 W (by rw [str_list, hs]; exact h2) hm (HG.below hb)
  rw [hs] at h
  have hc := cut_gt (l.drop 2)
  rw [← hc.1, ← hc.2]
  exact h
theorem cmt_call {s : ByteArray} {l : List UInt8} (hs : s.data.toList = l) (hm : s.size ≤ 1000000) (h4 : 4 ≤ l.length) {w : World} (HG : Glob w) :
    ∀ W, Below w.heap.size w W → Calls Tryz.prog 131 #[.string s, .int .i64 4, .string ⟨#[45, 45, 62]⟩] W (TagRet (some (tkR (upTo3 (l.drop 4)).1)) (upTo3 (l.drop 4)).2 l W) := by
  intro W hb
  have h := remark_tag s ⟨#[45, 45, 62]⟩ 4 W (by rw [str_list, hs]; exact h4) hm (HG.below hb)
  rw [hs] at h
  have hc := cut_three (l.drop 4)
  rw [← hc.1, ← hc.2]
  exact h

theorem tag_any (s : ByteArray) (w : World) (hm : s.size ≤ 1000000) (HG : Glob w) (hst : startsB s.data.toList = true) :
    Calls Tryz.prog 121 #[.string s] w (TagRet (tagB s.data.toList).1 (tagB s.data.toList).2 s.data.toList w) := by
  obtain ⟨c, r, hl, hc⟩ := starts_form hst
  rw [hl] at hst ⊢
  cases hlc : letC c with
  | true => exact tag_begin s c r w hm hl hlc
  | false =>
    have h2 : 2 ≤ (60 :: c :: r).length := by simp
    by_cases h47 : c = 47
    · subst h47
      rw [tagB_slash]
      have hp4 : Lib.hasPrefix (60 :: 47 :: r) [60, 33, 45, 45] = false := rfl
      cases r with
      | nil =>
        exact tag_gt2 s _ 47 w hm hl hst rfl rfl rfl (by rw [str_list, hl]; rfl) rfl hp4 HG _ _ (gt_call hl hm h2 HG)
      | cons d r =>
        cases hd : letC d with
        | true => exact tag_end s _ 47 w hm hl hst rfl rfl rfl d rfl hd _ _ (fun W _ => by
            have h := tkend_any s 60 47 d r hl hd W hm
            rw [hl] at h
            exact h)
        | false =>
          by_cases h62 : d = 62
          · subst h62
            exact tag_nil s _ 47 w hm hl hst rfl rfl rfl 62 rfl rfl rfl r rfl (by simp)
          · have hp3 : Lib.hasPrefix (60 :: 47 :: d :: r) [60, 47, 62] = false := by
              have hb : (62 == d) = false := by rw [beq_eq_false_iff_ne]; exact fun e => h62 e.symm
              show ((60 == 60) && ((47 == 47) && ((62 == d) && _))) = false
              rw [hb]
              rfl
            rw [slashB_cons, if_neg h62, if_neg (by rw [hd]; decide)]
            exact tag_gt3 s _ 47 w hm hl hst rfl rfl rfl d rfl hd hp3 hp4 HG _ _ (gt_call hl hm h2 HG)
    · have hp3 : Lib.hasPrefix (60 :: c :: r) [60, 47, 62] = false := (pre_no3 (d := 0) (e := 0) rfl h47).1
      cases hp : Lib.hasPrefix (c :: r) [33, 45, 45] with
      | true =>
        obtain ⟨t, ht⟩ := pre_form3 hp
        injection ht with e1 e2
        subst e1
        subst e2
        rw [tagB_remark]
        exact tag_cmt s _ 33 w hm hl hst rfl rfl (by decide) hp3 rfl HG (by rw [str_list, hl]; simp) _ _ (cmt_call hl hm (by simp) HG)
      | false =>
        have hp4 : Lib.hasPrefix (60 :: c :: r) [60, 33, 45, 45] = false := by
          show ((60 == 60) && Lib.hasPrefix (c :: r) [33, 45, 45]) = false
          rw [hp]
          rfl
        rw [tagB_other hlc hp h47]
        exact tag_gt1 s _ c w hm hl hst rfl hlc h47 hp3 hp4 HG _ _ (gt_call hl hm h2 HG)

theorem tagB_kind {l : List UInt8} (h : startsB l = true) {k : Tk} (hk : (tagB l).1 = some k) : k.kind = 1 ∨ k.kind = 2 ∨ k.kind = 4 := by
  obtain ⟨c, r, rfl, _⟩ := starts_form h
  cases hl : letC c with
  | true =>
    rw [tagB_letter hl] at hk
    cases ha : attsOf [] ((c :: r).dropWhile tagC) with
    | none => rw [ha] at hk; cases hk
    | some x => rw [ha] at hk; injection hk with hk; subst hk; exact .inl rfl
  | false =>
    cases hp : Lib.hasPrefix (c :: r) [33, 45, 45] with
    | true =>
      obtain ⟨t, ht⟩ := pre_form3 hp
      injection ht with e1 e2
      subst e1
      subst e2
      rw [tagB_remark] at hk
      injection hk with hk
      subst hk
      exact .inr (.inr rfl)
    | false =>
      by_cases h4 : c = 47
      · subst h4
        rw [tagB_slash] at hk
        cases r with
        | nil =>
          have hk' : some (tkR []) = some k := hk
          injection hk' with hk'
          subst hk'
          exact .inr (.inr rfl)
        | cons d r =>
          rw [slashB_cons] at hk
          split at hk
          · cases hk
          · split at hk
            · split at hk
              · injection hk with hk
                subst hk
                exact .inr (.inl rfl)
              · cases hk
            · injection hk with hk
              subst hk
              exact .inr (.inr rfl)
      · rw [tagB_other hl hp h4] at hk
        injection hk with hk
        subst hk
        exact .inr (.inr rfl)

set_option maxHeartbeats 400000 in
theorem chars_any (s : ByteArray) (w : World) : Calls Tryz.prog 123 #[.string s] w fun e w' => e = .returned (tkv ⟨3, ⟨#[]⟩, [], s⟩ (.slice none 0 0)) ∧ Below w.heap.size w w' := by
  rw [tkv_agg]
  go_enter Tryz.func123, Tryz.ntmps123
  go_wp2_with fail
  refine bodyPost_ret (v := .agg #[.int .i64 3, .string ⟨#[]⟩, .slice none 0 0, .string s]) ?_ rfl ⟨rfl, below_new _ _⟩
  simp [results, Tryz.f123, go_sem]

end Go.Proofs.YthmnnalamaponaaGreat

/- Part TkR. -/
namespace Go.Proofs.YthmnnalamaponaaGreat
open Go.RowKit
set_option linter.unusedVariables false

theorem info_tok : (Tryz.prog.info? 129).map (fun i => (i.zero, i.size, i.bytes)) = some (some (.agg #[.int .i64 0, .string ⟨#[]⟩, .slice none 0 0, .string ⟨#[]⟩]), 4, 64) := by kernel_rfl

/-- A list of tokens of the call's own: their attributes lie anywhere from block lo on, but in its own row. -/
def OwnK5 (w : World) (lo : Nat) (l : List Tk) (v : Value) : Prop :=
  ∃ R : List (Tk × Value), R.map (·.1) = l ∧ w.ownsRow lo 129 4 v R.length (tcells R) ∧ ∀ r ∈ R, AttrsAt (Sub lo w v) w r.1.attrs r.2
theorem OwnK5.nil (w : World) (lo : Nat) : OwnK5 w lo [] (.slice none 0 0) := ⟨[], rfl, World.ownsRow_nil _ _ _ _, by simp⟩
theorem OwnK5.shape {w : World} {lo : Nat} {l : List Tk} {v : Value} (h : OwnK5 w lo l v) : ∃ A c, v = .slice A l.length c ∧ l.length ≤ c := by
  obtain ⟨R, rfl, hown, _⟩ := h
  rw [List.length_map]
  exact own_size hown
theorem OwnK5.lt {w : World} {lo : Nat} {l : List Tk} {v : Value} (h : OwnK5 w lo l v) : ∀ g, v.ownBlock = some g → lo ≤ g ∧ g < w.heap.size := by
  obtain ⟨R, rfl, hown, _⟩ := h
  exact fun g hg => hown.lt g hg
theorem OwnK5.later {w w' : World} {lo : Nat} {l : List Tk} {v : Value} (h : OwnK5 w lo l v) (hb : Below w.heap.size w w') : OwnK5 w' lo l v := by
  obtain ⟨R, hl, hown, hat⟩ := h
  exact ⟨R, hl, own_below hown hb, fun r hr => ((hat r hr).keep (Kept.below hb fun b hs => hs.2.1)).mono fun b hs => ⟨hs.1, Nat.lt_of_lt_of_le hs.2.1 hb.size, hs.2.2⟩⟩
theorem OwnK5.tokAt {w : World} {lo : Nat} {l : List Tk} {v : Value} (h : OwnK5 w lo l v) : TokAt (fun b => lo ≤ b ∧ b < w.heap.size) w l v := by
  obtain ⟨R, rfl, hown, hat⟩ := h
  obtain ⟨A, c, rfl, hc⟩ := own_size hown
  refine ⟨R, A, c, rfl, by rw [List.length_map], by rw [List.length_map]; exact hc, (Cells.own hown).mono fun b hb => hown.lt b hb, fun r hr => (hat r hr).mono fun b hb => ⟨hb.1, hb.2.1⟩⟩

/-- One token more, at an operation. -/
theorem wp_append_tok {w : World} {o : Oper} {a : Act} {K : Act → World → Prop} {Q : Exit → Act → World → Prop} (s x : Operand)
    (ho : o.op = .call { callee := .builtin .append, args := #[s, x], argTypes := #[125, 125] })
    (lo : Nat) (l : List Tk) (v : Value) (hs : a.eval s = v) (h : OwnK5 w lo l v) (r : Tk × Value) (ad : Addr) (c : Nat) (hx : a.eval x = .slice (some ad) 1 c)
    (hnews : ∀ j u, (tcells1 r)[j]? = some u → w.cell? (ad.add j) = some u) (hat : AttrsAt (Sub lo w v) w r.1.attrs r.2)
    (hlen : l.length ≤ 4000000) (hbase : lo ≤ w.heap.size)
    (hK' : ∀ v' w', OwnK5 w' lo (l ++ [r.1]) v' → w.grownBy w' v.ownBlock → K (a.put o.dst v') w') :
    Oper.wp Tryz.prog o a w K Q := by
  obtain ⟨i0, hi, hz0, hz1, hz2⟩ := info_parts info_tok
  obtain ⟨R, rfl, hown, hat0⟩ := h
  rw [List.length_map] at hlen
  obtain ⟨A1, c1, hva, _⟩ := id hat
  have h1 : ∀ u ∈ tcells1 r, u.oneCell' = true := by
    intro u hu
    simp only [tcells1, List.mem_cons, List.not_mem_nil, or_false] at hu
    rcases hu with rfl | rfl | rfl | rfl
    · rfl
    · rfl
    · rw [hva]; rfl
    · rfl
  obtain ⟨v', w', hrun, own', hgr, hnew⟩ := run_append_new (w := w) lo 125 o.type 129 i0 _ 4 64 Tryz.underlying125 hi hz0 hz1 hz2 rfl (by decide) v R.length (tcells R) hown ad 1 c (tcells1 r) rfl hnews h1 (by unfold maxLen; omega) (by omega) hbase
  unfold Oper.wp
  simp [execOp, ho, resolve, invoke, builtin, hs, hx, hrun, Result.andThen]
  have hSS : ∀ b, Sub lo w v b → Sub lo w' v' b := by
    intro b hb
    refine ⟨hb.1, Nat.lt_of_lt_of_le hb.2.1 hgr.size, ?_⟩
    rcases hnew with e | e
    · rw [e]; exact hb.2.2
    · intro hg
      have := e b hg
      have := hb.2.1
      omega
  have kp : Kept (Sub lo w v) w w' := Kept.grown hgr fun b hb => ⟨hb.2.1, fun e => hb.2.2 e.symm⟩
  refine hK' v' w' ⟨R ++ [r], by simp, ?_, ?_⟩ hgr
  · rw [List.length_append, tcells_append]
    have : tcells [r] = tcells1 r := by simp [tcells]
    rw [this]
    exact own'
  · intro q hq
    rcases List.mem_append.1 hq with hq | hq
    · exact ((hat0 q hq).keep kp).mono hSS
    · simp at hq
      subst hq
      exact (AttrsAt.keep hat kp).mono hSS

theorem wpList_append_tok {w : World} {ops : Array Oper} {rest : List Oper} {o : Oper} {a : Act} {Q : Exit → Act → World → Prop} (hgd : o.guard = none) (s x : Operand)
    (ho : o.op = .call { callee := .builtin .append, args := #[s, x], argTypes := #[125, 125] })
    (lo : Nat) (l : List Tk) (v : Value) (hs : a.eval s = v) (h : OwnK5 w lo l v) (r : Tk × Value) (ad : Addr) (c : Nat) (hx : a.eval x = .slice (some ad) 1 c)
    (hnews : ∀ j u, (tcells1 r)[j]? = some u → w.cell? (ad.add j) = some u) (hat : AttrsAt (Sub lo w v) w r.1.attrs r.2)
    (hlen : l.length ≤ 4000000) (hbase : lo ≤ w.heap.size)
    (hK : ∀ v' w', OwnK5 w' lo (l ++ [r.1]) v' → w.grownBy w' v.ownBlock → wpList Tryz.prog ops Q rest (a.put o.dst v') w') :
    wpList Tryz.prog ops Q (o :: rest) a w := by
  exact wpList_plain hgd fun K hK' => wp_append_tok s x ho lo l v hs h r ad c hx hnews hat hlen hbase fun v' w' h1 h2 => hK' _ _ (hK v' w' h1 h2)

/-- A new token's cells, where they were laid. -/
theorem new_four (w : World) (t : TypeId) (k : Tk) (va : Value) : ∀ j u, (tcells1 (k, va))[j]? = some u → (w.alloc (.cells #[.int .i64 k.kind, .string k.name, va, .string k.text] t)).cell? ((⟨w.heap.size, 0, none⟩ : Addr).add j) = some u := by
  intro j u hj
  rw [add_zero_addr]
  match j, hj with
  | 0, hj => simp [tcells1] at hj; subst hj; simp
  | 1, hj => simp [tcells1] at hj; subst hj; simp
  | 2, hj => simp [tcells1] at hj; subst hj; simp
  | 3, hj => simp [tcells1] at hj; subst hj; simp
  | j + 4, hj => simp [tcells1] at hj

end Go.Proofs.YthmnnalamaponaaGreat

/- Part NamW. -/
namespace Go.Proofs.YthmnnalamaponaaGreat
open Go.RowKit
set_option linter.unusedVariables false

set_option maxHeartbeats 400000 in
theorem raw_any (s : ByteArray) (w : World) :
    Calls Tryz.prog 88 #[.string s] w fun e w' => e = .returned (.bool (rawB s.data.toList)) ∧ w = w' := by
  have h1 := eqs s [115, 99, 114, 105, 112, 116]
  have h2 := eqs s [115, 116, 121, 108, 101]
  obtain ⟨q1, e1⟩ : ∃ q, decide (s.data.toList = [115, 99, 114, 105, 112, 116]) = q := ⟨_, rfl⟩
  obtain ⟨q2, e2⟩ : ∃ q, decide (s.data.toList = [115, 116, 121, 108, 101]) = q := ⟨_, rfl⟩
  have HF := Lib.hid (show rawB s.data.toList = (q1 || q2) by unfold rawB; rw [e1, e2])
  rw [e1] at h1
  rw [e2] at h2
  clear e1 e2
  cases q1 <;> cases q2
  all_goals
    go_enter Tryz.func88, Tryz.ntmps88
    go_wp2
    go_ret
    exact ⟨by rw [HF.out]; rfl, rfl⟩

end Go.Proofs.YthmnnalamaponaaGreat
