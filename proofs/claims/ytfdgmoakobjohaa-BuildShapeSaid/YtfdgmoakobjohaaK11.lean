/- Parts of the proof, in build order: BdW MpS EndM EndR ClsR Made StdM StbR MergeK. -/
import Derived.Test.YtfdgmoakobjohaaK10
import Derived.Test.YtfdgmoakobjohaaK09
import Derived.Deep.RegionWith
import Derived.Deep.DeepCutAuto
import Derived.Test.YtfdgmoakobjohaaK01
import Derived.Test.YtfdgmoakobjohaaK03
import Derived.Test.YtfdgmoakobjohaaK02
import Derived.Test.YtfdgmoakobjohaaK05
import Derived.Test.YtfdgmoakobjohaaK08
import Derived.Deep.RegionHeld3
import Derived.StillTailTactics

/- Part BdW. -/
namespace Go.Proofs.Ytfdgmoakobjohaa
open Go.RowKit
set_option linter.unusedVariables false

theorem bel_drewN {B : Nat} {w w' : World} (h : Below B w w') (n : Nat) : Below B w (w'.drewN n) := ⟨h.os, h.tape, h.output, h.size, h.block⟩
theorem wrote_bel {lo g : Nat} {k nm va tx bv vk : Value} {m : List Value} {s : ByteArray} {w w' : World} (h : Wrote lo g k nm va tx bv vk m s w w') (hg : lo ≤ g) (hb : ∀ b, bv.ownBlock = some b → lo ≤ b) (hlo : lo ≤ w.heap.size) : Below lo w w' :=
  ⟨h.os, h.tape, h.output, h.size, fun k hk => h.kept k (by omega) (by omega) fun e => by have := hb k e; omega⟩
theorem text_small {s : Stt} {t : Tl} {k : Nat} (ht : s.tl = some t) (h : szB (s.bst []) ≤ k) : t.mo.length ≤ k := by
  have h1 := inner_sz (s.bst [])
  have htn : s.tn = [t.rp.n] := by unfold Stt.tn; rw [ht]
  rw [inner_top, htn, szL_append, List.append_nil, szL_cons, szN_eq] at h1
  have h2 : t.rp.n.text.size = t.pre.size + t.mo.length := by
    show (t.pre ++ ⟨t.mo.toArray⟩ : ByteArray).size = _
    rw [ByteArray.size_append]
    rfl
  omega

theorem text_end {lo a : Nat} {b : Bst} {N ng : Nat} {w W w' : World} {tx : ByteArray} (hp : PlusAt lo a b N (knew w W) W ng w') (hlo : lo ≤ w.heap.size) (hg : knew w W ng)
    (hb : W.heap[ng]? = some (.cells #[.int .i64 3, .string ⟨#[]⟩, .slice none 0 0, .string tx, .pointer none, .slice none 0 0, .slice none 0 0] 54 (0, 0))) (hl : lastText (inner b) = false) (hne : tx.data.toList ≠ []) : IsAtB lo a (addTo b (textN tx)) N w' := by
  have := PlusAt.text (newTl ng tx) hp (knew_lo hlo) (newTl_at hb) hg rfl (by rw [newTl_n]; exact hne) hl
  rw [newTl_n] at this
  exact this

set_option maxHeartbeats 4000000 in
set_option maxRecDepth 100000 in
theorem chars_anyB {lo a : Nat} {b : Bst} {N : Nat} {w : World} (h : IsAtB lo a b N w) (nm tx : ByteArray) (A : Option Addr) (n c : Nat) (hz : szB b ≤ 100000) (htx : tx.size ≤ 100000) (hlo : lo ≤ w.heap.size) :
    Calls Try.prog 27 #[.pointer (some ⟨a, 0, none⟩), .agg #[.int .i64 3, .string nm, .slice A n c, .string tx]] w (Did lo a (addTo b (textN tx)) N w) := by
  have mixed : Try.prog.follows Departure.mixedOrders = true := by kernel_rfl
  obtain ⟨w1, hw1⟩ : ∃ w1, w.alloc (.cells #[.int .i64 3, .string nm, .slice A n c, .string tx] 34) = w1 := ⟨_, rfl⟩
  have hb1 : Below w.heap.size w w1 := by rw [← hw1]; exact below_new _ _
  have hs1 : w1.heap.size = w.heap.size + 1 := by rw [← hw1]; simp
  have hbx : w1.heap[w.heap.size]? = some (.cells #[.int .i64 3, .string nm, .slice A n c, .string tx] 34 (0, 0)) := by rw [← hw1]; exact box_here w _ _
  have x0 : w1.cell? ⟨w.heap.size, 0, none⟩ = some (.int .i64 3) := cell_at hbx 0
  have x3 : w1.cell? ⟨w.heap.size, 3, none⟩ = some (.string tx) := cell_at hbx 3
  obtain ⟨q, hq⟩ : ∃ q, tx.toList.isEmpty = q := ⟨_, rfl⟩
  cases q with
  | true =>
    have HE := Lib.hid (show Did lo a (addTo b (textN tx)) N w (.returned (.tuple #[])) w1 from ⟨⟨_, rfl⟩, by rw [add_empty b tx ((isEmpty_iff' _).1 hq)]; exact h.keep hb1, hb1.mono hlo⟩)
    clear hb1 hs1 hbx h
    go_enter Try.func27, Try.ntmps27
    go_wp2_with fail
    go_end0
    exact HE.out
  | false =>
    have hne : tx.data.toList ≠ [] := fun e => by rw [(isEmpty_iff' _).2 e] at hq; cases hq
    obtain ⟨P, Q, s, rfl, hbs, h3, h4, h5, _⟩ := id h
    have hst := h5.below hb1
    have hzs : szB (s.bst []) ≤ 100000 := by rw [hbs]; exact hz
    have HPL := place_any hst (fs_small hzs)
    obtain ⟨hrow, cs, ty, hblk, hc6, hty⟩ := hst.top
    obtain ⟨Ak, ck, hv, hck⟩ := own_size hrow.own
    have c6 : w1.cell? ⟨s.topG, 6, none⟩ = some (.slice Ak (s.topR.map Rp.g ++ (s.tg ++ [])).length ck) := (cell_at hblk 6).trans (hc6.trans (by rw [hv]))
    have hcl := Cells.own (hv ▸ hrow.own)
    -- what a text that is new becomes
    have HADD := Lib.hid (fun (W : World) (hW : Below w.heap.size w W) (ng : Nat) => addG_any (K := knew w W) (h.more hW) ng hz (Nat.le_trans hlo hW.size) fun k hk => (knew_lo hlo k hk).2)
    have hways : (s.tl = none ∧ s.topR = []) ∨ (∃ m r, s.tl = none ∧ s.topR = m ++ [r]) ∨ ∃ t, s.tl = some t := by
      cases ht : s.tl with
      | some t => exact .inr (.inr ⟨t, rfl⟩)
      | none =>
        rcases Nat.eq_zero_or_pos s.topR.length with h0 | h0
        · exact .inl ⟨rfl, List.eq_nil_of_length_eq_zero h0⟩
        · obtain ⟨m, r, hmr⟩ := snoc_of h0
          exact .inr (.inl ⟨m, r, rfl, hmr⟩)
    have hK : ∀ W : World, w1.heap.size < W.heap.size → Below w.heap.size w W → knew w W w1.heap.size := fun W hW hb => .inr ⟨by omega, by omega⟩
    rcases hways with ⟨htl, htr⟩ | ⟨m, r, htl, htr⟩ | ⟨t, htl⟩
    · have htg : s.tg = [] := by unfold Stt.tg; rw [htl]
      have hl := h4 htl
      rw [htr, htg] at c6
      have c6' : w1.cell? ⟨s.topG, 6, none⟩ = some (.slice Ak 0 ck) := c6
      have HP := Lib.hid HPL
      have HC := Lib.hid (fun k => (⟨x0, x3, c6'⟩ : (w1.drewN k).cell? ⟨w.heap.size, 0, none⟩ = some (.int .i64 3) ∧ (w1.drewN k).cell? ⟨w.heap.size, 3, none⟩ = some (.string tx) ∧ (w1.drewN k).cell? ⟨s.topG, 6, none⟩ = some (.slice Ak 0 ck)))
      obtain ⟨tg, htg'⟩ : ∃ g, s.topG = g := ⟨_, rfl⟩
      obtain ⟨sa, hsa⟩ : ∃ g, s.a = g := ⟨_, rfl⟩
      rw [htg'] at HP HC
      rw [hsa] at HP HADD ⊢
      have HB := Lib.hid hb1
      have HL := Lib.hid (And.intro hl hne)
      clear hb1 hs1 hbx c6 c6' HPL hrow hblk hc6 hty hv hck hcl hst h5 h4 h3 hl hne htg' hsa htl htr htg hbs h hzs
      go_enter Try.func27, Try.ntmps27
      go_wp2_with fail
      refine HP.out.mono ?_
      rintro e wd ⟨rfl, k, hwd⟩
      have hfa := HC.out k
      rw [← hwd] at hfa
      obtain ⟨y0, y3, y6⟩ := hfa
      have hBd : Below w.heap.size w wd := by rw [hwd]; exact bel_drewN HB.out k
      obtain ⟨w2, hw2⟩ : ∃ w2, wd.alloc (.cells #[.int .i64 3, .string ⟨#[]⟩, .slice none 0 0, .string tx, .pointer none, .slice none 0 0, .slice none 0 0] 54) = w2 := ⟨_, rfl⟩
      have hb2 : Below w.heap.size w w2 := by rw [← hw2]; exact hBd.alloc hBd.size _
      have HG := Lib.hid (show w2.heap[wd.heap.size]? = some (.cells #[.int .i64 3, .string ⟨#[]⟩, .slice none 0 0, .string tx, .pointer none, .slice none 0 0, .slice none 0 0] 54 (0, 0)) by rw [← hw2]; exact box_here wd _ _)
      have HKN := Lib.hid (show knew w w2 wd.heap.size by right; exact ⟨hBd.size, by rw [← hw2]; simp⟩)
      have HAD := Lib.hid (HADD.out w2 hb2 wd.heap.size)
      have HB2 := Lib.hid (hb2.mono hlo)
      clear hwd hBd hb2
      go_wp2_with fail
      refine HAD.out.mono ?_
      rintro e w3 ⟨⟨x, rfl⟩, hp, hb3⟩
      have HE := Lib.hid (text_end hp hlo HKN.out HG.out HL.out.1 HL.out.2)
      have HB3 := Lib.hid (HB2.out.trans hb3)
      clear hp hb3 hw2
      go_wp2_with fail
      go_end0
      exact ⟨⟨_, rfl⟩, HE.out, HB3.out⟩
    · have htg : s.tg = [] := by unfold Stt.tg; rw [htl]
      have hl := h4 htl
      have hml : (s.topR.map Rp.g ++ (s.tg ++ [])).length = m.length + 1 := by rw [htr, htg]; simp
      have hlast : ((s.topR.map Rp.g ++ (s.tg ++ [])).map pcell)[m.length]? = some (pcell r.g) := by rw [htr, htg]; simp
      have hor : POne Q (inQ Q) w1 r := by
        have hf := hst.frs
        unfold Stt.topR at htr
        cases hfs : s.fs with
        | nil =>
          rw [hfs] at hf htr
          exact hf.2 r (by rw [show s.R0 = m ++ [r] from htr]; simp)
        | cons f fs =>
          rw [hfs] at hf htr
          exact hf.2.2.2.2.1 r (by rw [show f.R = m ++ [r] from htr]; simp)
      have hkd : r.n.kind = 1 ∨ r.n.kind = 3 := by
        cases hor.kn with
        | elem hk _ => exact .inl hk
        | comm hk _ _ _ _ => exact .inr hk
        | text hk _ _ _ _ _ _ =>
          have := inner_top s []
          have htn : s.tn = [] := by unfold Stt.tn; rw [htl]
          rw [htr, htn, hbs, List.map_append, List.append_nil, List.append_nil] at this
          rw [this, show [r].map Rp.n = [r.n] from rfl, lastText_snoc, hk] at hl
          cases hl
      rw [hml] at c6 hcl hck
      obtain ⟨bb, oo, rfl, _, hx⟩ := hcl (by rw [List.length_map, hml]; omega)
      have c9 : w1.cell? ⟨bb, oo + m.length, none⟩ = some (.pointer (some ⟨r.g, 0, none⟩)) := hx m.length _ hlast
      obtain ⟨kd, hkd2⟩ : ∃ kd, tkd r.n.kind = kd := ⟨_, rfl⟩
      have c10 : w1.cell? ⟨r.g, 0, none⟩ = some (.int .i64 kd) := by rw [← hkd2]; exact hor.nd.c0
      have B3 : (kd == 3) = false := by
        rw [← hkd2]
        rcases hkd with e | e <;> rw [e] <;> rfl
      have HP := Lib.hid HPL
      have HC := Lib.hid (fun k => (⟨x0, x3, c6, c9, c10⟩ : (w1.drewN k).cell? ⟨w.heap.size, 0, none⟩ = some (.int .i64 3) ∧ (w1.drewN k).cell? ⟨w.heap.size, 3, none⟩ = some (.string tx) ∧ (w1.drewN k).cell? ⟨s.topG, 6, none⟩ = some (.slice (some ⟨bb, oo, none⟩) (m.length + 1) ck) ∧
        (w1.drewN k).cell? ⟨bb, oo + m.length, none⟩ = some (.pointer (some ⟨r.g, 0, none⟩)) ∧ (w1.drewN k).cell? ⟨r.g, 0, none⟩ = some (.int .i64 kd)))
      obtain ⟨tg, htg'⟩ : ∃ g, s.topG = g := ⟨_, rfl⟩
      obtain ⟨sa, hsa⟩ : ∃ g, s.a = g := ⟨_, rfl⟩
      obtain ⟨rg, hrg⟩ : ∃ g, r.g = g := ⟨_, rfl⟩
      obtain ⟨ml, hmm⟩ : ∃ g, m.length = g := ⟨_, rfl⟩
      rw [htg', hrg, hmm] at HC
      rw [htg'] at HP
      rw [hsa] at HP HADD ⊢
      have hmz : ml ≤ 100000 := by
        have := row_small hzs
        rw [hml, hmm] at this
        omega
      have HB := Lib.hid hb1
      have HL := Lib.hid (And.intro hl hne)
      have i1 : (ml : Int) < ((ml + 1 : Nat) : Int) := by omega
      have i2 : (0 : Int) ≤ (ml : Int) := by omega
      clear hb1 hs1 hbx c6 c9 c10 HPL hrow hblk hc6 hty hv hck hcl hst h5 h4 h3 hl hne htg' hsa htl htr htg hbs h hzs hrg hmm hml hlast hor hkd hkd2 hx
      go_enter Try.func27, Try.ntmps27
      go_wp2_with fail
      refine HP.out.mono ?_
      rintro e wd ⟨rfl, k, hwd⟩
      have hfa := HC.out k
      rw [← hwd] at hfa
      obtain ⟨y0, y3, y6, y9, y10⟩ := hfa
      have hBd : Below w.heap.size w wd := by rw [hwd]; exact bel_drewN HB.out k
      obtain ⟨w2, hw2⟩ : ∃ w2, wd.alloc (.cells #[.int .i64 3, .string ⟨#[]⟩, .slice none 0 0, .string tx, .pointer none, .slice none 0 0, .slice none 0 0] 54) = w2 := ⟨_, rfl⟩
      have hb2 : Below w.heap.size w w2 := by rw [← hw2]; exact hBd.alloc hBd.size _
      have HG := Lib.hid (show w2.heap[wd.heap.size]? = some (.cells #[.int .i64 3, .string ⟨#[]⟩, .slice none 0 0, .string tx, .pointer none, .slice none 0 0, .slice none 0 0] 54 (0, 0)) by rw [← hw2]; exact box_here wd _ _)
      have HKN := Lib.hid (show knew w w2 wd.heap.size by right; exact ⟨hBd.size, by rw [← hw2]; simp⟩)
      have HAD := Lib.hid (HADD.out w2 hb2 wd.heap.size)
      have HB2 := Lib.hid (hb2.mono hlo)
      clear hwd hBd hb2
      go_wp2_with fail
      refine HAD.out.mono ?_
      rintro e w3 ⟨⟨x, rfl⟩, hp, hb3⟩
      have HE := Lib.hid (text_end hp hlo HKN.out HG.out HL.out.1 HL.out.2)
      have HB3 := Lib.hid (HB2.out.trans hb3)
      clear hp hb3 hw2
      go_wp2_with fail
      go_end0
      exact ⟨⟨_, rfl⟩, HE.out, HB3.out⟩
    · have htg : s.tg = [t.g] := by unfold Stt.tg; rw [htl]
      have htlw := hst.tl t htl
      have hml : (s.topR.map Rp.g ++ (s.tg ++ [])).length = s.topR.length + 1 := by rw [htg]; simp
      have hlast : ((s.topR.map Rp.g ++ (s.tg ++ [])).map pcell)[s.topR.length]? = some (pcell t.g) := by rw [htg]; simp
      rw [hml] at c6 hcl hck
      obtain ⟨bb, oo, rfl, _, hx⟩ := hcl (by rw [List.length_map, hml]; omega)
      have c9 : w1.cell? ⟨bb, oo + s.topR.length, none⟩ = some (.pointer (some ⟨t.g, 0, none⟩)) := hx _ _ hlast
      have c10 : w1.cell? ⟨t.g, 0, none⟩ = some (.int .i64 3) := cell_at htlw.blk 0
      have hmo := text_small htl hzs
      have HW := Lib.hid (fun k => write7_any lo t.g (.int .i64 3) (.string ⟨#[]⟩) (.slice none 0 0) (.string t.pre) t.bp t.bv (.slice none 0 0) (Lib.byteCells t.mo) tx (w1.drewN k) htlw.blk htlw.bp (by rw [Lib.byteCells_length]; exact htlw.own) (by rw [Lib.byteCells_length]; omega) (by show lo ≤ w1.heap.size; omega))
      have HE := Lib.hid (fun k w' (hw : Wrote lo t.g (.int .i64 3) (.string ⟨#[]⟩) (.slice none 0 0) (.string t.pre) t.bv (.slice none 0 0) (Lib.byteCells t.mo) tx (w1.drewN k) w') => (by
        obtain ⟨bv, hS⟩ := (hst.drewN k).wrote htl hw hne
        refine ⟨⟨_, rfl⟩, ⟨P, Q, { s with tl := some (t.grown bv tx) }, rfl, by rw [grown_bst s t bv tx htl hne, hbs], h3, (fun e => by cases e), hS, fun k hk => hk.elim⟩, (bel_drewN (hb1.mono hlo) k).trans (wrote_bel hw (hst.lo t.g (.inr (.inr (.inr (.inr (.inr ⟨t, htl, .inl rfl⟩)))))).1 (fun b hb => (hst.lo b (.inr (.inr (.inr (.inr (.inr ⟨t, htl, .inr hb⟩)))))).1) (by show lo ≤ w1.heap.size; omega))⟩ : Did lo s.a (addTo b (textN tx)) N w (.returned (.tuple #[])) w'))
      have HP := Lib.hid HPL
      have HC := Lib.hid (fun k => (⟨x0, x3, c6, c9, c10⟩ : (w1.drewN k).cell? ⟨w.heap.size, 0, none⟩ = some (.int .i64 3) ∧ (w1.drewN k).cell? ⟨w.heap.size, 3, none⟩ = some (.string tx) ∧ (w1.drewN k).cell? ⟨s.topG, 6, none⟩ = some (.slice (some ⟨bb, oo, none⟩) (s.topR.length + 1) ck) ∧
        (w1.drewN k).cell? ⟨bb, oo + s.topR.length, none⟩ = some (.pointer (some ⟨t.g, 0, none⟩)) ∧ (w1.drewN k).cell? ⟨t.g, 0, none⟩ = some (.int .i64 3)))
      obtain ⟨tg, htg'⟩ : ∃ g, s.topG = g := ⟨_, rfl⟩
      obtain ⟨sa, hsa⟩ : ∃ g, s.a = g := ⟨_, rfl⟩
      obtain ⟨rg, hrg⟩ : ∃ g, t.g = g := ⟨_, rfl⟩
      obtain ⟨ml, hmm⟩ : ∃ g, s.topR.length = g := ⟨_, rfl⟩
      rw [htg', hrg, hmm] at HC
      rw [htg'] at HP
      rw [hsa] at HP HE ⊢
      rw [hrg] at HW HE
      have hmz : ml ≤ 100000 := by
        have := row_small hzs
        rw [hml, hmm] at this
        omega
      have i1 : (ml : Int) < ((ml + 1 : Nat) : Int) := by omega
      have i2 : (0 : Int) ≤ (ml : Int) := by omega
      clear hb1 hs1 hbx c6 c9 c10 HPL hrow hblk hc6 hty hv hck hcl hst h5 h4 h3 hne htg' hsa htg hbs h hzs hrg hmm hml hlast hx HADD hmo htlw
      go_enter Try.func27, Try.ntmps27
      go_wp2_with fail
      refine HP.out.mono ?_
      rintro e wd ⟨rfl, k, hwd⟩
      have hfa := HC.out k
      rw [← hwd] at hfa
      obtain ⟨y0, y3, y6, y9, y10⟩ := hfa
      have z3 : wd.drew.cell? ⟨w.heap.size, 3, none⟩ = some (.string tx) := y3
      have z9 : wd.drew.cell? ⟨bb, oo + ml, none⟩ = some (.pointer (some ⟨rg, 0, none⟩)) := y9
      have hw2 := HW.out (k + 1)
      have he2 := HE.out (k + 1)
      have hdd : w1.drewN (k + 1) = wd.drew := by rw [hwd]; rfl
      rw [hdd] at hw2 he2
      have HW2 := Lib.hid hw2
      have HE2 := Lib.hid he2
      clear hwd hdd hw2 he2 HW HE HC HP
      have i3 : IntKind.i64.wrap (ml : Int) = (ml : Int) := by rw [IntKind.wrap_i64]; omega
      have i4 : (ml : Int) < (ml : Int) + 1 := by omega
      go_upto_region 4 with fail
      go_region_with (first
        | (go_at_call 40; refine HW2.out.mono ?_; rintro e w3 ⟨⟨x, rfl⟩, hwr⟩))
      all_goals go_wp2_with fail
      all_goals go_end0
      all_goals exact HE2.out _ hwr

end Go.Proofs.Ytfdgmoakobjohaa

/- Part MpS. -/
namespace Go.Proofs.Ytfdgmoakobjohaa
open Go.RowKit Go.Maps
set_option linter.unusedVariables false

/-- How a slice is told in a datum: its block, its length, its capacity. -/
def slcElem : Value → Option (DataW Unit × List MemPlace)
  | .slice none 0 0 => some (.agg [], [])
  | .slice (some ⟨b, 0, none⟩) n c => some (.agg [.lit (.int .i64 b), .lit (.int .i64 n), .lit (.int .i64 c)], [])
  | _ => none
/-- What is found under a key. -/
def slV : Option (Nat × Nat × Nat) → Value
  | none => .slice none 0 0
  | some (b, n, c) => .slice (some ⟨b, 0, none⟩) n c
def slD : Option (Nat × Nat × Nat) → DataW Unit
  | none => .agg []
  | some (b, n, c) => .agg [.lit (.int .i64 b), .lit (.int .i64 n), .lit (.int .i64 c)]
theorem slcElem_mk (x : Option (Nat × Nat × Nat)) : slcElem (slV x) = some (slD x, []) := by
  rcases x with _ | ⟨b, n, c⟩ <;> rfl
theorem slcElem_inv {v : Value} {x : Option (Nat × Nat × Nat)} {ps : List MemPlace} (h : slcElem v = some (slD x, ps)) : v = slV x := by
  unfold slcElem at h
  split at h
  · rcases x with _ | ⟨b, n, c⟩
    · rfl
    · simp [slD] at h
  · rcases x with _ | ⟨b, n, c⟩
    · simp [slD] at h
    · simp [slD] at h
      obtain ⟨⟨h1, h2, h3⟩, _⟩ := h
      rename_i b' n' c' _
      obtain rfl : b' = b := by omega
      obtain rfl : n' = n := by omega
      obtain rfl : c' = c := by omega
      rfl
  · cases h

/-- What a datum says of texts. -/
def MView (D : DataW Unit) (f : List UInt8 → Option (Nat × Nat × Nat)) : Prop :=
  IsMap D ∧ ∀ l, Maps.has D (.string l) = (f l).isSome ∧ ∀ z, D.atKey (.string l) z = if (f l).isSome = true then slD (f l) else z
theorem MView.empty : MView (.map []) (fun _ => none) := ⟨isMap_empty, fun l => ⟨rfl, fun z => rfl⟩⟩
def updM {α : Type} (f : List UInt8 → Option α) (k : List UInt8) (v : α) : List UInt8 → Option α := fun l => if l = k then some v else f l
theorem MView.put {D : DataW Unit} {f : List UInt8 → Option (Nat × Nat × Nat)} (h : MView D f) (k : List UInt8) (v : Nat × Nat × Nat) : MView (D.put (.string k) (slD (some v))) (updM f k v) := by
  refine ⟨h.1.put _ _, fun l => ?_⟩
  unfold updM
  by_cases e : l = k
  · subst e
    rw [if_pos rfl]
    exact ⟨has_put_same h.1 (show WideAt.IsKeyLit (.string l) from trivial) _, fun z => atKey_put_same h.1 (show WideAt.IsKeyLit (.string l) from trivial) _ z⟩
  · rw [if_neg e]
    have hne : (Lit.string l) ≠ .string k := by intro h; injection h; exact e ‹_›
    refine ⟨?_, fun z => ?_⟩
    · rw [has_put_other hne]; exact (h.2 l).1
    · rw [atKey_put_other hne]; exact (h.2 l).2 z

/-- Block b is a map of at most n entries: under a key that g tells of lies a slice of those texts. -/
def MapL (w : World) (b n : Nat) (g : List UInt8 → Option (List (List UInt8))) : Prop := ∃ (f : List UInt8 → Option (Nat × Nat × Nat)) (D : DataW Unit), w.ownsMap Try.prog 9 slcElem b n D ∧ MView D f ∧
  ∀ o, (f o).isSome = (g o).isSome ∧ ∀ bx m c Ls, f o = some (bx, m, c) → g o = some Ls → m = Ls.length ∧ m ≤ c ∧ bx < w.heap.size ∧ bx ≠ b ∧ ∀ j x, Ls[j]? = some x → w.cell? ⟨bx, j, none⟩ = some (.string (tB x))

theorem MapL.below {w w' : World} {b n : Nat} {g : List UInt8 → Option (List (List UInt8))} (h : MapL w b n g) (hb : Below w.heap.size w w') : MapL w' b n g := by
  obtain ⟨f, D, ⟨es, clock, hh, F, hs, hD⟩, hv, hc⟩ := h
  have hlt := (Array.getElem?_eq_some_iff.1 hh).1
  refine ⟨f, D, ⟨es, clock, (hb.block b hlt).trans hh, F, hs, hD⟩, hv, fun o => ⟨(hc o).1, fun bx m c Ls hf hg => ?_⟩⟩
  obtain ⟨h1, h2, h3, h4, h5⟩ := (hc o).2 bx m c Ls hf hg
  exact ⟨h1, h2, Nat.lt_of_lt_of_le h3 hb.size, h4, fun j x hj => (hb.cell (p := ⟨bx, j, none⟩) h3).trans (h5 j x hj)⟩
theorem MapL.lt {w : World} {b n : Nat} {g : List UInt8 → Option (List (List UInt8))} (h : MapL w b n g) : b < w.heap.size := by
  obtain ⟨f, D, h, _⟩ := h
  exact h.lt
theorem MapL.made (w : World) : MapL (w.alloc (.map #[] 0)) w.heap.size 0 (fun _ => none) :=
  ⟨fun _ => none, _, World.ownsMap_made _ _ _ _, MView.empty, fun o => ⟨rfl, fun bx m c Ls hf => by cases hf⟩⟩
theorem MapL.congr {w : World} {b n : Nat} {f g : List UInt8 → Option (List (List UInt8))} (h : MapL w b n f) (e : ∀ l, f l = g l) : MapL w b n g := by
  have : f = g := funext e
  subst this
  exact h

/-- An entry of a map's literal: a slice that has just been made. -/
theorem MapL.insert {W : World} {b n : Nat} {g : List UInt8 → Option (List (List UInt8))} (h : MapL W b n g) (hn : n < 1000) (T : TypeId) (hT : Try.prog.underlying T = some (.map 9 45)) (Ls : List (List UInt8)) (cs : Array Value) (ty : TypeId)
    (hcs : cs.toList = Ls.map (fun x => .string (tB x))) (k : ByteArray) (hk : k.size ≤ maxLen) (L : Nat) (hL : L = Ls.length) (nb : Nat) (hnb : nb = W.heap.size) :
    ∃ w', (Instr.mapUpdate T (.map (some b)) (.string k) (.slice (some ⟨nb, 0, none⟩) L L)).run Try.prog (W.alloc (.cells cs ty)) = .ok () w' ∧ MapL w' b (n + 1) (updM g k.data.toList Ls) ∧ (W.alloc (.cells cs ty)).grownBy w' (some b) := by
  subst hnb
  have hlt := h.lt
  have h1 := h.below (below_new W (.cells cs ty))
  obtain ⟨f, D, hown, hvw, hc⟩ := h1
  obtain ⟨w', hrun, r1, r2⟩ := hown.update strKeyed hT (by unfold maxLen; omega) (Go.WideMaps.keyOf_string_mk Try.underlying9 hk) (slcElem_mk (some (W.heap.size, L, L)))
  have hsz := r2.size
  refine ⟨w', hrun, ⟨updM f k.data.toList (W.heap.size, L, L), _, r1, hvw.put _ _, fun o' => ?_⟩, r2⟩
  unfold updM
  by_cases e : o' = k.data.toList
  · rw [if_pos e, if_pos e]
    refine ⟨rfl, fun bx m' c Ls' hf hg' => ?_⟩
    injection hf with hf
    injection hg' with hg'
    subst hg'
    injection hf with e1 e2
    injection e2 with e2 e3
    subst e1 e2 e3
    refine ⟨hL, Nat.le_refl _, by have := r2.size; simp at this; omega, by omega, fun j x hj => ?_⟩
    rw [World.cell?_of_block (a := ⟨W.heap.size, j, none⟩) (r2.block _ (by simp) (by simp; omega)), cell_at (box_here W cs ty), ← Array.getElem?_toList, hcs, List.getElem?_map, hj]
    rfl
  · rw [if_neg e, if_neg e]
    refine ⟨(hc o').1, fun bx m' c Ls' hf hg' => ?_⟩
    obtain ⟨h1, h2, h3, h4, h5⟩ := (hc o').2 bx m' c Ls' hf hg'
    refine ⟨h1, h2, Nat.lt_of_lt_of_le h3 hsz, h4, fun j x hj => ?_⟩
    rw [World.cell?_of_block (a := ⟨bx, j, none⟩) (r2.block _ h3 (by simpa using h4))]
    exact h5 j x hj

/-- 'm[o]': nothing, or a slice of the texts. -/
theorem MapL.get {w : World} {b n : Nat} {g : List UInt8 → Option (List (List UInt8))} {T : TypeId} (h : MapL w b n g) (hT : Try.prog.underlying T = some (.map 9 45)) (hz : (zeroValue 45).run Try.prog w = .ok (.slice none 0 0) w) (k : ByteArray) (hk : k.size ≤ maxLen) :
    (g k.data.toList = none ∧ (Instr.lookup T (.map (some b)) (.string k) false).run Try.prog w = .ok (.slice none 0 0) w) ∨
    ∃ Ls bx c, g k.data.toList = some Ls ∧ (Instr.lookup T (.map (some b)) (.string k) false).run Try.prog w = .ok (.slice (some ⟨bx, 0, none⟩) Ls.length c) w ∧ Ls.length ≤ c ∧ bx < w.heap.size ∧ ∀ j x, Ls[j]? = some x → w.cell? ⟨bx, j, none⟩ = some (.string (tB x)) := by
  obtain ⟨f, D, hown, hv, hc⟩ := h
  obtain ⟨v, ps, hrun, hv2⟩ := hown.lookup strKeyed hT hz (slcElem_mk none) (Go.WideMaps.keyOf_string_mk Try.underlying9 hk)
  have hat := (hv.2 k.data.toList).2 (slD none)
  rw [hat] at hv2
  have hsm := (hc k.data.toList).1
  cases hf : f k.data.toList with
  | none =>
    rw [hf] at hv2 hsm
    have hg : g k.data.toList = none := by
      cases hg : g k.data.toList with
      | none => rfl
      | some y => rw [hg] at hsm; cases hsm
    rw [if_neg (by simp)] at hv2
    have := slcElem_inv hv2
    subst this
    exact .inl ⟨hg, hrun⟩
  | some y =>
    obtain ⟨bx, m, c⟩ := y
    rw [hf] at hv2 hsm
    rw [if_pos (show (some (bx, m, c)).isSome = true from rfl)] at hv2
    have := slcElem_inv hv2
    subst this
    cases hg : g k.data.toList with
    | none => rw [hg] at hsm; cases hsm
    | some Ls =>
      obtain ⟨h1, h2, h3, h4, h5⟩ := (hc k.data.toList).2 bx m c Ls hf hg
      subst h1
      exact .inr ⟨Ls, bx, c, rfl, hrun, h2, h3, h5⟩

end Go.Proofs.Ytfdgmoakobjohaa

/- Part EndM. -/
namespace Go.Proofs.Ytfdgmoakobjohaa
set_option linter.unusedVariables false
set_option linter.unusedSimpArgs false

/-- Where a raw element ends; -1: it doesn't. -/
def endsI (nm l : List UInt8) : Int := if (cutEnd nm l).2 = [] then -1 else ((cutEnd nm l).1.length : Int)
theorem cutEnd_at (nm : List UInt8) : ∀ (i : Nat) (l : List UInt8), (∀ j, j < i → endAt nm (l.drop j) = false) → endAt nm (l.drop i) = true → cutEnd nm l = (l.take i, l.drop i)
  | 0, l, _, h => by
    rw [List.drop_zero] at h
    cases l with
    | nil => rfl
    | cons c r => rw [cutEnd_cons, if_pos h]; rfl
  | i + 1, [], hj, h => by rw [List.drop_nil] at h; rw [List.take_nil, List.drop_nil]; rfl
  | i + 1, c :: r, hj, h => by
    have h0 := hj 0 (by omega)
    rw [List.drop_zero] at h0
    rw [List.drop_succ_cons] at h
    rw [cutEnd_cons, if_neg (by rw [h0]; decide), cutEnd_at nm i r (fun j hj' => by have := hj (j + 1) (by omega); rwa [List.drop_succ_cons] at this) h]
    rfl
theorem cutEnd_no (nm : List UInt8) : ∀ (l : List UInt8), (∀ j, j < l.length → endAt nm (l.drop j) = false) → cutEnd nm l = (l, [])
  | [], _ => rfl
  | c :: r, hj => by
    have h0 := hj 0 (by simp)
    rw [List.drop_zero] at h0
    rw [cutEnd_cons, if_neg (by rw [h0]; decide), cutEnd_no nm r (fun j hj' => by have := hj (j + 1) (by simp; omega); rwa [List.drop_succ_cons] at this)]
theorem endAt_nil (nm : List UInt8) : endAt nm [] = false := by
  unfold endAt
  simp
theorem endAt_short {nm l : List UInt8} (h : l.length ≤ 2 + nm.length) : endAt nm l = false := by
  unfold endAt
  rw [List.drop_of_length_le h]
  simp
theorem endsI_at {nm l : List UInt8} {i : Nat} (hj : ∀ j, j < i → endAt nm (l.drop j) = false) (h : endAt nm (l.drop i) = true) : endsI nm l = (i : Int) := by
  have hlt : i < l.length := by
    rcases Nat.lt_or_ge i l.length with h' | h'
    · exact h'
    · rw [List.drop_of_length_le h', endAt_nil] at h; cases h
  unfold endsI
  rw [cutEnd_at nm i l hj h]
  show (if l.drop i = [] then _ else ((l.take i).length : Int)) = _
  rw [if_neg (by intro e; have := congrArg List.length e; rw [List.length_drop] at this; simp at this; omega), List.length_take]
  omega
theorem endsI_no {nm l : List UInt8} (hj : ∀ j, j < l.length → endAt nm (l.drop j) = false) : endsI nm l = -1 := by
  unfold endsI
  rw [cutEnd_no nm l hj, if_pos rfl]
/-- A raw element does not end in a text, just if behind it its end is the first one. -/
theorem ends_raw {nm t : List UInt8} (hn : ∀ x ∈ nm, namC x = true) : (endsI nm (t ++ (60 :: 47 :: (nm ++ [62]))) = (t.length : Int)) ↔ rawOK nm t = true := by
  constructor
  · intro h
    have hc := cutEnd_app nm (t ++ (60 :: 47 :: (nm ++ [62])))
    unfold endsI at h
    split at h
    · omega
    · have hl : (cutEnd nm (t ++ (60 :: 47 :: (nm ++ [62])))).1.length = t.length := by omega
      have h1 := List.append_inj_left hc hl
      have := cutEnd_rawOK nm (t ++ (60 :: 47 :: (nm ++ [62])))
      rwa [h1] at this
  · intro h
    have := cutEnd_stop hn [] t h
    unfold endsI
    rw [this, if_neg (by simp)]

/-- A text has a word. -/
def hasB (w : List UInt8) : List UInt8 → Bool
  | [] => decide (w = [])
  | c :: r => Lib.hasPrefix (c :: r) w || hasB w r
theorem hasB_at {w : List UInt8} (hw : w ≠ []) : ∀ {l : List UInt8} {i : Nat}, (l.drop i).take w.length = w → hasB w l = true
  | [], i, h => by
    rw [List.drop_nil, List.take_nil] at h
    exact absurd h.symm hw
  | c :: r, 0, h => by
    have : Lib.hasPrefix (c :: r) w = true := by
      unfold Lib.hasPrefix
      rw [List.isPrefixOf_iff_prefix]
      rw [List.drop_zero] at h
      rw [← h]
      exact List.take_prefix _ _
    unfold hasB
    rw [this]
    rfl
  | c :: r, i + 1, h => by
    rw [List.drop_succ_cons] at h
    unfold hasB
    rw [hasB_at hw h, Bool.or_true]
theorem hasB_no {w : List UInt8} (hw : w ≠ []) : ∀ {l : List UInt8}, (∀ i, i + w.length ≤ l.length → (l.drop i).take w.length ≠ w) → hasB w l = false
  | [], h => by
    unfold hasB
    exact decide_eq_false hw
  | c :: r, h => by
    unfold hasB
    rw [Bool.or_eq_false_iff]
    constructor
    · cases hp : Lib.hasPrefix (c :: r) w with
      | false => rfl
      | true =>
        exfalso
        unfold Lib.hasPrefix at hp
        rw [List.isPrefixOf_iff_prefix] at hp
        obtain ⟨t, ht⟩ := hp
        refine h 0 ?_ ?_
        · have := congrArg List.length ht
          rw [List.length_append] at this
          omega
        · rw [List.drop_zero, ← ht, List.take_left]
    · refine hasB_no hw fun i hi => ?_
      have := h (i + 1) (by rw [List.length_cons]; omega)
      rwa [List.drop_succ_cons] at this
theorem has_noEnd : ∀ l : List UInt8, hasB [45, 45, 62] l = !noEnd l
  | [] => rfl
  | c :: r => by
    have ih := has_noEnd r
    unfold hasB
    rw [ih]
    unfold noEnd
    rw [upTo3_cons]
    cases hp : Lib.hasPrefix (c :: r) [45, 45, 62] with
    | true =>
      rw [if_pos rfl]
      simp
    | false =>
      rw [if_neg (by decide)]
      simp

end Go.Proofs.Ytfdgmoakobjohaa

/- Part EndR. -/
namespace Go.Proofs.Ytfdgmoakobjohaa
open Go.RowKit
set_option linter.unusedVariables false

structure FdAt (w wr : World) (s : List UInt8) (v : Value) (k : Nat) : Prop where
  le : k ≤ s.length
  own : wr.ownsRow w.heap.size 5 1 v k (Lib.byteCells ((s.take k).map lowB))
  bel : Below w.heap.size w wr
def FdRel (w : World) (s : List UInt8) (v i : Value) (wr : World) : Prop := ∃ k : Nat, i = .int .i64 k ∧ FdAt w wr s v k

structure EnAt (w wr : World) (nm l : List UInt8) (i : Nat) : Prop where
  le : i ≤ l.length
  no : ∀ j, j < i → endAt nm (l.drop j) = false
  bel : Below w.heap.size w wr
def EnRel (w : World) (nm l : List UInt8) (x : Value) (wr : World) : Prop := ∃ i : Nat, x = .int .i64 i ∧ EnAt w wr nm l i

theorem endAt_split {nm l : List UInt8} {i : Nat} {c : UInt8} (h : l[i + (2 + nm.length)]? = some c) : endAt nm (l.drop i) = (decide (((l.drop i).take (2 + nm.length)).map lowB = 60 :: 47 :: nm) && (blC c || decide (c = 47) || decide (c = 62))) := by
  unfold endAt
  have hd : (l.drop i).drop (2 + nm.length) = c :: l.drop (i + (2 + nm.length) + 1) := by
    rw [List.drop_drop]
    have hlt := (List.getElem?_eq_some_iff.1 h).1
    rw [List.drop_eq_getElem_cons hlt]
    rw [(List.getElem?_eq_some_iff.1 h).2]
  rw [hd]
theorem eq_cat {X : List UInt8} {name : ByteArray} : ((tB X).toList == ((⟨#[60, 47]⟩ : ByteArray) ++ name).toList) = decide (X = 60 :: 47 :: name.data.toList) := by
  rw [str_eq]
  congr 1
  rw [eq_iff_iff]
  constructor
  · intro h
    have := congrArg (fun b : ByteArray => b.data.toList) h
    simp only [tB_list, ByteArray.data_append, Array.toList_append] at this
    exact this
  · intro h
    apply bytes_inj
    rw [tB_list, h]
    simp

end Go.Proofs.Ytfdgmoakobjohaa

/- Part ClsR. -/
namespace Go.Proofs.Ytfdgmoakobjohaa
open Go.RowKit
set_option linter.unusedVariables false

theorem lit_strs (w : World) (t : TypeId) (Ls : List (List UInt8)) : ∀ (j : Nat) (x : List UInt8), Ls[j]? = some x → (w.alloc (.cells (Ls.map (fun x => Value.string (tB x))).toArray t)).cell? ⟨w.heap.size, j, none⟩ = some (.string (tB x)) := by
  intro j x hj
  rw [cell_at (box_here w _ t)]
  simp [hj]

structure ClAt (w : World) (A : Option Addr) (Ls : List (List UInt8)) (b : List UInt8) (k : Nat) (wr : World) : Prop where
  le : k ≤ Ls.length
  cells : ∀ (j : Nat) (x : List UInt8), Ls[j]? = some x → ∃ bx, A = some ⟨bx, 0, none⟩ ∧ wr.cell? ⟨bx, j, none⟩ = some (.string (tB x))
  no : ∀ j x, j < k → Ls[j]? = some x → x ≠ b
  bel : Below w.heap.size w wr
def ClRel (w : World) (A : Option Addr) (Ls : List (List UInt8)) (b : List UInt8) (x : Value) (wr : World) : Prop := ∃ k : Nat, x = .int .i64 k ∧ ClAt w A Ls b k wr

theorem ClAt.done {w wr : World} {A : Option Addr} {Ls : List (List UInt8)} {b : List UInt8} (h : ClAt w A Ls b Ls.length wr) : Ls.any (fun x => decide (x = b)) = false := by
  rw [List.any_eq_false]
  intro x hx
  obtain ⟨j, hj, he⟩ := List.mem_iff_getElem.1 hx
  have := h.no j x hj (by rw [List.getElem?_eq_getElem hj, he])
  simpa using this

set_option maxHeartbeats 4000000 in
set_option maxRecDepth 100000 in
theorem closesR_any (o b : ByteArray) (w : World) :
    Calls Try.prog 18 #[.string o, .string b] w fun e w' => e = .returned (.bool (closesB o.data.toList b.data.toList)) ∧ Below w.heap.size w w' := by
  have h1 := eqs o [112]
  have h2 := eqs o [108, 105]
  have h3 := eqs o [100, 116]
  have h4 := eqs o [100, 100]
  have h5 := eqs o [111, 112, 116, 105, 111, 110]
  have h6 := eqs o [116, 100]
  have h7 := eqs o [116, 114]
  have key : ∃ (Ls : List (List UInt8)), closedBy o.data.toList = Ls := ⟨_, rfl⟩
  obtain ⟨Ls, hLs⟩ := key
  have hres : closesB o.data.toList b.data.toList = Ls.any (fun x => decide (x = b.data.toList)) := by unfold closesB; rw [hLs]
  have HRES := Lib.hid hres
  unfold closedBy at hLs
  clear hres
  by_cases c1 : o.data.toList = [112]
  case' pos =>
    rw [if_pos c1] at hLs
    rw [decide_eq_true c1] at h1
  case' neg =>
    rw [if_neg c1] at hLs
    rw [decide_eq_false c1] at h1
    by_cases c2 : o.data.toList = [108, 105]
    case' pos =>
      rw [if_pos c2] at hLs
      rw [decide_eq_true c2] at h2
    case' neg =>
      rw [if_neg c2] at hLs
      rw [decide_eq_false c2] at h2
      by_cases c3 : o.data.toList = [100, 116]
      case' pos =>
        rw [if_pos (Or.inl c3)] at hLs
        rw [decide_eq_true c3] at h3
      case' neg =>
        rw [decide_eq_false c3] at h3
        by_cases c4 : o.data.toList = [100, 100]
        case' pos =>
          rw [if_pos (Or.inr c4)] at hLs
          rw [decide_eq_true c4] at h4
        case' neg =>
          rw [if_neg (by rintro (h | h); exact c3 h; exact c4 h)] at hLs
          rw [decide_eq_false c4] at h4
          by_cases c5 : o.data.toList = [111, 112, 116, 105, 111, 110]
          case' pos =>
            rw [if_pos c5] at hLs
            rw [decide_eq_true c5] at h5
          case' neg =>
            rw [if_neg c5] at hLs
            rw [decide_eq_false c5] at h5
            by_cases c6 : o.data.toList = [116, 100]
            case' pos =>
              rw [if_pos c6] at hLs
              rw [decide_eq_true c6] at h6
            case' neg =>
              rw [if_neg c6] at hLs
              rw [decide_eq_false c6] at h6
              by_cases c7 : o.data.toList = [116, 114]
              case' pos =>
                rw [if_pos c7] at hLs
                rw [decide_eq_true c7] at h7
              case' neg =>
                rw [if_neg c7] at hLs
                rw [decide_eq_false c7] at h7
  all_goals
    have hlen := congrArg List.length hLs
    simp only [List.length_cons, List.length_nil] at hlen
    have HLEN := Lib.hid hlen.symm
    have HLS := Lib.hid hLs
    clear hlen hLs
    (try clear c1)
    (try clear c2)
    (try clear c3)
    (try clear c4)
    (try clear c5)
    (try clear c6)
    (try clear c7)
    go_enter Try.func18, Try.ntmps18
    go_wp2_with fail
    go_loopw [6] (fun x wr => ClRel w (some ⟨w.heap.size, 0, none⟩) Ls b.data.toList x wr) (fun x _ => Ls.length - (intOf x).toNat)
    case atStart =>
      refine ⟨0, rfl, ⟨by omega, fun j x hj => ⟨_, rfl, ?_⟩, fun j x h => by omega, by first | exact below_new w _ | exact Below.refl _ _⟩⟩
      rw [← HLS.out] at hj
      first | exact lit_strs w 9 _ j x hj | simp at hj
    case round =>
      obtain ⟨k, rfl, HR⟩ := hrel
      have hk := HR.le
      have hbr := HR.bel
      have HRR := Lib.hid HR
      clear HR
      by_cases hlt : k < Ls.length
      · obtain ⟨x, hx⟩ : ∃ x, Ls[k]? = some x := ⟨_, List.getElem?_eq_getElem hlt⟩
        obtain ⟨bx, hbx, q0⟩ := HRR.out.cells k x hx
        injection hbx with hbx
        injection hbx with hbx _ _
        subst hbx
        have hst := str_eq (tB x) b
        have HX := Lib.hid hx
        have hk1 : k + 1 ≤ Ls.length := hlt
        have HK1 := Lib.hid hk1
        rw [HLEN.out] at hlt hk
        clear hx hk1
        (try (exfalso; omega))
        all_goals
          by_cases hxb : x = b.data.toList
          · have B0 : ((tB x).toList == b.toList) = true := by rw [hst, decide_eq_true (by rw [hxb, tB_of])]
            have HF := Lib.hid (show closesB o.data.toList b.data.toList = true by rw [HRES.out, List.any_eq_true]; exact ⟨x, List.mem_of_getElem? HX.out, by simp [hxb]⟩)
            clear hst hxb
            go_wp2_with fail
            go_ret
            rw [HF.out]
            exact ⟨rfl, hbr⟩
          · have B0 : ((tB x).toList == b.toList) = false := by rw [hst, decide_eq_false (fun e => hxb (by rw [← e, tB_list]))]
            have HXB := Lib.hid hxb
            clear hst hxb
            go_wp2_with fail
            go_roundw
            case rel => exact ⟨k + 1, by go_num, HK1.out, HRR.out.cells, fun j y hj hy => by
              rcases Nat.lt_or_ge j k with h | h
              · exact HRR.out.no j y h hy
              · have : j = k := by omega
                subst this
                rw [HX.out] at hy
                injection hy with hy
                subst hy
                exact HXB.out, hbr⟩
            case measure => have := HLEN.out; simp [intOf]; omega
      · have hke : k = Ls.length := by omega
        have HDN := Lib.hid (show ClAt w (some ⟨w.heap.size, 0, none⟩) Ls b.data.toList Ls.length wr by rw [← hke]; exact HRR.out)
        have HF := Lib.hid (show closesB o.data.toList b.data.toList = false by rw [HRES.out]; exact HDN.out.done)
        rw [HLEN.out] at hlt hk hke
        go_wp2_with fail
        go_ret
        rw [HF.out]
        exact ⟨rfl, hbr⟩

end Go.Proofs.Ytfdgmoakobjohaa

/- Part Made. -/
namespace Go.Proofs.Ytfdgmoakobjohaa
open Go.RowKit Go.Maps
set_option linter.unusedVariables false

def mdK0 : List UInt8 := [112]
def mdL0 : List (List UInt8) := [[98, 108, 111, 99, 107, 113, 117, 111, 116, 101], [100, 105, 118], [104, 49], [104, 50], [104, 114], [108, 105], [111, 108], [112], [112, 114, 101], [116, 97, 98, 108, 101], [117, 108]]
def mdK1 : List UInt8 := [108, 105]
def mdL1 : List (List UInt8) := [[108, 105]]
def mdK2 : List UInt8 := [100, 116]
def mdL2 : List (List UInt8) := [[100, 100], [100, 116]]
def mdK3 : List UInt8 := [100, 100]
def mdL3 : List (List UInt8) := [[100, 100], [100, 116]]
def mdK4 : List UInt8 := [111, 112, 116, 105, 111, 110]
def mdL4 : List (List UInt8) := [[111, 112, 116, 105, 111, 110]]
def mdK5 : List UInt8 := [116, 100]
def mdL5 : List (List UInt8) := [[116, 100], [116, 114]]
def mdK6 : List UInt8 := [116, 114]
def mdL6 : List (List UInt8) := [[116, 114]]
/-- What the map holds. -/
def clG : List UInt8 → Option (List (List UInt8)) := updM (updM (updM (updM (updM (updM (updM (fun _ => none) mdK0 mdL0) mdK1 mdL1) mdK2 mdL2) mdK3 mdL3) mdK4 mdL4) mdK5 mdL5) mdK6 mdL6
theorem clG_eq (o : List UInt8) : clG o = if closedBy o = [] then none else some (closedBy o) := by
  by_cases h : o = mdK6 ∨ o = mdK5 ∨ o = mdK4 ∨ o = mdK3 ∨ o = mdK2 ∨ o = mdK1 ∨ o = mdK0
  · rcases h with rfl | rfl | rfl | rfl | rfl | rfl | rfl <;> decide +kernel
  · simp only [not_or] at h
    obtain ⟨h6, h5, h4, h3, h2, h1, h0⟩ := h
    have hc : closedBy o = [] := by
      unfold closedBy
      unfold mdK0 at h0
      unfold mdK1 at h1
      unfold mdK2 at h2
      unfold mdK3 at h3
      unfold mdK4 at h4
      unfold mdK5 at h5
      unfold mdK6 at h6
      rw [if_neg h0, if_neg h1, if_neg (by rintro (e | e); exact h2 e; exact h3 e), if_neg h4, if_neg h5, if_neg h6]
    rw [if_pos hc]
    unfold clG updM
    rw [if_neg h6, if_neg h5, if_neg h4, if_neg h3, if_neg h2, if_neg h1, if_neg h0]

/-- Block b is the map of what closes what. -/
def Made (w : World) (b : Nat) : Prop := MapL w b 7 clG
theorem Made.below {w w' : World} {b : Nat} (h : Made w b) (hb : Below w.heap.size w w') : Made w' b := MapL.below h hb

set_option maxHeartbeats 4000000 in
set_option maxRecDepth 100000 in
theorem made_any (w : World) : Calls Try.prog 42 #[] w fun e w' => ∃ b, e = .returned (.map (some b)) ∧ Made w' b ∧ Below w.heap.size w w' := by
  have hmm := @run_makeMap Try.prog
  have h0 : MapL (w.alloc (.map #[] 0)) w.heap.size 0 (fun _ => none) := MapL.made w
  have b0 : Below w.heap.size w (w.alloc (.map #[] 0)) := below_new w _
  obtain ⟨w1, e1, h1, r1⟩ := h0.insert (by omega) 83 Try.underlying83 mdL0 #[.string ⟨#[98, 108, 111, 99, 107, 113, 117, 111, 116, 101]⟩, .string ⟨#[100, 105, 118]⟩, .string ⟨#[104, 49]⟩, .string ⟨#[104, 50]⟩, .string ⟨#[104, 114]⟩, .string ⟨#[108, 105]⟩, .string ⟨#[111, 108]⟩, .string ⟨#[112]⟩, .string ⟨#[112, 114, 101]⟩, .string ⟨#[116, 97, 98, 108, 101]⟩, .string ⟨#[117, 108]⟩] 9 rfl ⟨#[112]⟩ (by decide) 11 rfl (w.heap.size + 1) (by simp)
  have b1 : Below w.heap.size w w1 := (b0.alloc b0.size _).grown r1 (by have := b0.size; simp; omega) (fun g hg => by injection hg with hg; omega)
  clear r1
  obtain ⟨w2, e2, h2, r2⟩ := h1.insert (by omega) 83 Try.underlying83 mdL1 #[.string ⟨#[108, 105]⟩] 9 rfl ⟨#[108, 105]⟩ (by decide) 1 rfl _ rfl
  have b2 : Below w.heap.size w w2 := (b1.alloc b1.size _).grown r2 (by have := b1.size; simp; omega) (fun g hg => by injection hg with hg; omega)
  clear r2
  obtain ⟨w3, e3, h3, r3⟩ := h2.insert (by omega) 83 Try.underlying83 mdL2 #[.string ⟨#[100, 100]⟩, .string ⟨#[100, 116]⟩] 9 rfl ⟨#[100, 116]⟩ (by decide) 2 rfl _ rfl
  have b3 : Below w.heap.size w w3 := (b2.alloc b2.size _).grown r3 (by have := b2.size; simp; omega) (fun g hg => by injection hg with hg; omega)
  clear r3
  obtain ⟨w4, e4, h4, r4⟩ := h3.insert (by omega) 83 Try.underlying83 mdL3 #[.string ⟨#[100, 100]⟩, .string ⟨#[100, 116]⟩] 9 rfl ⟨#[100, 100]⟩ (by decide) 2 rfl _ rfl
  have b4 : Below w.heap.size w w4 := (b3.alloc b3.size _).grown r4 (by have := b3.size; simp; omega) (fun g hg => by injection hg with hg; omega)
  clear r4
  obtain ⟨w5, e5, h5, r5⟩ := h4.insert (by omega) 83 Try.underlying83 mdL4 #[.string ⟨#[111, 112, 116, 105, 111, 110]⟩] 9 rfl ⟨#[111, 112, 116, 105, 111, 110]⟩ (by decide) 1 rfl _ rfl
  have b5 : Below w.heap.size w w5 := (b4.alloc b4.size _).grown r5 (by have := b4.size; simp; omega) (fun g hg => by injection hg with hg; omega)
  clear r5
  obtain ⟨w6, e6, h6, r6⟩ := h5.insert (by omega) 83 Try.underlying83 mdL5 #[.string ⟨#[116, 100]⟩, .string ⟨#[116, 114]⟩] 9 rfl ⟨#[116, 100]⟩ (by decide) 2 rfl _ rfl
  have b6 : Below w.heap.size w w6 := (b5.alloc b5.size _).grown r6 (by have := b5.size; simp; omega) (fun g hg => by injection hg with hg; omega)
  clear r6
  obtain ⟨w7, e7, h7, r7⟩ := h6.insert (by omega) 83 Try.underlying83 mdL6 #[.string ⟨#[116, 114]⟩] 9 rfl ⟨#[116, 114]⟩ (by decide) 1 rfl _ rfl
  have b7 : Below w.heap.size w w7 := (b6.alloc b6.size _).grown r7 (by have := b6.size; simp; omega) (fun g hg => by injection hg with hg; omega)
  clear r7
  have H7 := Lib.hid (And.intro h7 b7)
  clear h0 h1 h2 h3 h4 h5 h6 h7 b0 b1 b2 b3 b4 b5 b6 b7
  go_enter Try.func42, Try.ntmps42
  go_wp2_with fail
  go_ret
  exact ⟨_, rfl, H7.out.1, H7.out.2⟩

end Go.Proofs.Ytfdgmoakobjohaa

/- Part StdM. -/
namespace Go.Proofs.Ytfdgmoakobjohaa
set_option linter.unusedVariables false
set_option linter.unusedSimpArgs false

/-- No comment with an end in it. -/
def okC (n : Nd) : Bool := !decide (n.kind = 3) || noEnd n.text.data.toList
mutual
/-- A node, its kids made stable. -/
def stdN : Nd → Nd
  | .mk k nm a t ks => if k = 1 then .mk k nm a t ((mergeB (stdK nm.data.toList ks)).filter (fitsB nm.data.toList)) else .mk k nm a t ks
def stdK (p : List UInt8) : List Nd → List Nd
  | [] => []
  | n :: l => if (fitsB p n && okC n) = true then stdN n :: stdK p l else stdK p l
end
def stdT (l : List Nd) : List Nd := (l.filter okC).map stdN
/-- Nodes made stable. -/
def steadyB (l : List Nd) : List Nd := mergeB (stdT l)
theorem stdK_eq (p : List UInt8) : ∀ l : List Nd, stdK p l = stdT (l.filter (fitsB p))
  | [] => by simp [stdK, stdT]
  | n :: l => by
    have ih := stdK_eq p l
    rw [List.filter_cons]
    cases hf : fitsB p n with
    | false => simp [stdK, hf, ih]
    | true =>
      rw [if_pos rfl]
      cases ho : okC n with
      | false => simp [stdK, hf, ho, ih, stdT]
      | true => simp [stdK, hf, ho, ih, stdT]
theorem stdN_elem {n : Nd} (h : n.kind = 1) : stdN n = .mk n.kind n.name n.attrs n.text ((steadyB (n.kids.filter (fitsB n.name.data.toList))).filter (fitsB n.name.data.toList)) := by
  cases n with
  | mk k nm a t ks =>
    simp only [Nd.kind] at h
    subst h
    unfold steadyB
    rw [← stdK_eq]
    simp [stdN, Nd.kind, Nd.name, Nd.attrs, Nd.text, Nd.kids]
theorem stdN_other {n : Nd} (h : n.kind ≠ 1) : stdN n = n := by
  cases n with
  | mk k nm a t ks =>
    simp only [Nd.kind] at h
    simp [stdN, h]
theorem stdN_kind (n : Nd) : (stdN n).kind = n.kind := by
  by_cases h : n.kind = 1
  · rw [stdN_elem h]; rfl
  · rw [stdN_other h]
theorem stdN_name (n : Nd) : (stdN n).name = n.name := by
  by_cases h : n.kind = 1
  · rw [stdN_elem h]; rfl
  · rw [stdN_other h]
theorem stdN_text (n : Nd) : (stdN n).text = n.text := by
  by_cases h : n.kind = 1
  · rw [stdN_elem h]; rfl
  · rw [stdN_other h]
theorem fits_same {p : List UInt8} {a b : Nd} (h1 : a.kind = b.kind) (h2 : a.name = b.name) (h3 : a.text = b.text) : fitsB p a = fitsB p b := by
  unfold fitsB
  rw [h1, h2, h3]
theorem stdN_fits (p : List UInt8) (n : Nd) : fitsB p (stdN n) = fitsB p n := fits_same (stdN_kind n) (stdN_name n) (stdN_text n)

theorem szL_filter (p : Nd → Bool) : ∀ l : List Nd, szL (l.filter p) ≤ szL l
  | [] => by simp
  | n :: l => by
    have := szL_filter p l
    rw [List.filter_cons]
    split
    · rw [szL_cons, szL_cons]; omega
    · rw [szL_cons]; omega
/-- Induction on what nodes weigh. -/
theorem sz_ind {P : List Nd → Prop} (h : ∀ l, (∀ m, szL m < szL l → P m) → P l) : ∀ l, P l := by
  have key : ∀ n l, szL l < n → P l := by
    intro n
    induction n with
    | zero => intro l hl; omega
    | succ n ih => intro l hl; exact h l fun m hm => ih m (by omega)
  exact fun l => key (szL l + 1) l (by omega)
theorem mem_sz {l : List Nd} {n : Nd} (h : n ∈ l) : szN n ≤ szL l := by
  obtain ⟨i, hi, he⟩ := List.mem_iff_getElem.1 h
  exact szL_at (List.getElem?_eq_some_iff.2 ⟨hi, he⟩)

theorem steady_sz : ∀ l : List Nd, szL (steadyB l) ≤ szL l := by
  refine sz_ind fun l ih => ?_
  refine Nat.le_trans (merge_sz _) ?_
  unfold stdT
  have key : ∀ m : List Nd, (∀ x ∈ m, szN (stdN x) ≤ szN x) → szL (m.map stdN) ≤ szL m := by
    intro m
    induction m with
    | nil => intro _; simp
    | cons x m ihm =>
      intro h
      rw [List.map_cons, szL_cons, szL_cons]
      have := h x (by simp)
      have := ihm fun y hy => h y (by simp [hy])
      omega
  refine Nat.le_trans (key _ fun x hx => ?_) (szL_filter _ _)
  by_cases h1 : x.kind = 1
  · rw [stdN_elem h1, szN_mk, szN_eq x]
    have hx' := mem_sz (List.mem_filter.1 hx).1
    have h2 := szL_filter (fitsB x.name.data.toList) x.kids
    rw [szN_eq] at hx'
    have h3 := ih (x.kids.filter (fitsB x.name.data.toList)) (by omega)
    have h4 := szL_filter (fitsB x.name.data.toList) (steadyB (x.kids.filter (fitsB x.name.data.toList)))
    omega
  · rw [stdN_other h1]
    exact Nat.le_refl _

theorem foldl_all {p : List UInt8} (hr : rawB p = false) : ∀ (l out : List Nd), out.all (fitsB p) = true → l.all (fitsB p) = true → (l.foldl mstep out).all (fitsB p) = true
  | [], out, h, _ => h
  | n :: l, out, h, hl => by
    rw [List.all_cons, Bool.and_eq_true] at hl
    rw [List.foldl_cons]
    exact foldl_all hr l _ (mstep_fits hr h hl.1) hl.2
theorem foldl_kind2 : ∀ (l out : List Nd), (∀ x ∈ out, x.kind = 2) → (∀ x ∈ l, x.kind = 2) → ∀ x ∈ l.foldl mstep out, x.kind = 2
  | [], out, h, _ => h
  | n :: l, out, h, hl => by
    rw [List.foldl_cons]
    refine foldl_kind2 l _ ?_ (fun x hx => hl x (by simp [hx]))
    intro x hx
    unfold mstep at hx
    split at hx
    · exact h x hx
    · split at hx
      · rename_i h2
        have hne : 0 < out.length := by
          rcases Nat.eq_zero_or_pos out.length with h0 | h0
          · have := List.eq_nil_of_length_eq_zero h0
            subst this
            cases h2.2
          · exact h0
        obtain ⟨m, y, rfl⟩ := snoc_of hne
        rw [mglue_snoc] at hx
        rcases List.mem_append.1 hx with hx | hx
        · exact h x (by simp [hx])
        · simp only [List.mem_singleton] at hx
          subst hx
          exact h y (by simp)
      · rcases List.mem_append.1 hx with hx | hx
        · exact h x hx
        · simp only [List.mem_singleton] at hx
          subst hx
          exact hl x (by simp)
theorem foldl_st : ∀ (l out : List Nd), stL out = true → (∀ x ∈ l, stN x = true) → stL (l.foldl mstep out) = true
  | [], out, h, _ => h
  | n :: l, out, h, hl => by
    rw [List.foldl_cons]
    exact foldl_st l _ (mstep_st h (hl n (by simp))) (fun x hx => hl x (by simp [hx]))
theorem good_filter_one {p : Nd → Bool} {l : List Nd} (h : GoodL l) (h1 : l = [] ∨ ∃ n, l = [n]) : GoodL (l.filter p) := by
  rcases h1 with rfl | ⟨n, rfl⟩
  · exact h
  · rw [List.filter_cons]
    split
    · exact h
    · exact GoodL.nil
theorem st_filter {p : Nd → Bool} {l : List Nd} (h : stL l = true) : stL (l.filter p) = true := by
  rw [stL_all, List.all_eq_true] at h ⊢
  exact fun x hx => h x (List.mem_filter.1 hx).1

/-- Nodes that may be but for what stands side by side, made stable, are stable. -/
theorem steady_pre : ∀ l : List Nd, (∀ n ∈ l, nodeOK n) → (∀ n ∈ l, GoodL n.kids) → GoodL (steadyB l) ∧ stL (steadyB l) = true := by
  refine sz_ind fun l ih => ?_
  intro h1 h2
  have hx : ∀ x ∈ stdT l, nodeOK x ∧ GoodL x.kids ∧ stN x = true := by
    intro x hx
    obtain ⟨n, hn, rfl⟩ := List.mem_map.1 hx
    obtain ⟨hn, hok⟩ := List.mem_filter.1 hn
    have hno := h1 n hn
    have hnk := h2 n hn
    by_cases hk : n.kind = 1
    · rw [stdN_elem hk]
      obtain ⟨p, hp⟩ : ∃ p, n.name.data.toList = p := ⟨_, rfl⟩
      have hz := mem_sz hn
      rw [szN_eq] at hz
      have hzf := szL_filter (fitsB p) n.kids
      have hi := ih (n.kids.filter (fitsB p)) (by omega) (fun m hm => hnk.nodes m (List.mem_filter.1 hm).1) (fun m hm => hnk.kids m (List.mem_filter.1 hm).1)
      rw [hp]
      have hgood : GoodL ((steadyB (n.kids.filter (fitsB p))).filter (fitsB p)) := by
        cases hv : voidB p with
        | true =>
          have : n.kids.filter (fitsB p) = [] := by
            rw [List.filter_eq_nil_iff]
            intro m hm
            unfold fitsB
            rw [hv]
            simp
          rw [this]
          exact GoodL.nil
        | false =>
          cases hr : rawB p with
          | true =>
            have hk2 : ∀ m ∈ steadyB (n.kids.filter (fitsB p)), m.kind = 2 := by
              refine foldl_kind2 _ [] (by simp) ?_
              intro m hm
              obtain ⟨m', hm', rfl⟩ := List.mem_map.1 hm
              have hf := (List.mem_filter.1 (List.mem_filter.1 hm').1).2
              rw [stdN_kind]
              unfold fitsB at hf
              rw [hv, if_neg (by decide), hr, if_pos rfl, Bool.and_eq_true, decide_eq_true_eq] at hf
              exact hf.1
            refine good_filter_one hi.1 ?_
            rcases sides_one hi.1.sides_ hk2 with h | ⟨m, h, _⟩
            · exact .inl h
            · exact .inr ⟨m, h⟩
          | false =>
            have hall : (steadyB (n.kids.filter (fitsB p))).all (fitsB p) = true := by
              refine foldl_all hr _ [] rfl ?_
              rw [List.all_eq_true]
              intro m hm
              obtain ⟨m', hm', rfl⟩ := List.mem_map.1 hm
              rw [stdN_fits]
              exact (List.mem_filter.1 (List.mem_filter.1 hm').1).2
            rw [List.filter_eq_self.2 (fun m hm => List.all_eq_true.1 hall m hm)]
            exact hi.1
      refine ⟨?_, hgood, ?_⟩
      · rcases hno with ⟨a1, a2, a3, a4⟩ | ⟨a1, _⟩
        · exact .inl ⟨a1, a2, a3, a4⟩
        · omega
      · rw [stN_eq]
        show ((!decide (n.kind = 3) || _) && ((steadyB (n.kids.filter (fitsB p))).filter (fitsB p)).all (fitsB n.name.data.toList) && stL ((steadyB (n.kids.filter (fitsB p))).filter (fitsB p))) = true
        rw [hk, hp, st_filter hi.2]
        have : ((steadyB (n.kids.filter (fitsB p))).filter (fitsB p)).all (fitsB p) = true := by
          rw [List.all_eq_true]
          exact fun m hm => (List.mem_filter.1 hm).2
        rw [this]
        rfl
    · rw [stdN_other hk]
      refine ⟨hno, hnk, ?_⟩
      rcases hno with ⟨a1, _⟩ | ⟨_, _, _, hkids, _⟩
      · exact absurd a1 hk
      · rw [stN_eq, hkids, stL_nil]
        unfold okC at hok
        rw [hok]
        rfl
  refine ⟨merge_good ⟨fun x hx' => (hx x hx').1, fun x hx' => (hx x hx').2.1⟩, foldl_st _ [] stL_nil fun x hx' => (hx x hx').2.2⟩
theorem steady_good {l : List Nd} (h : GoodL l) : GoodL (steadyB l) ∧ stL (steadyB l) = true := steady_pre l h.nodes h.kids

end Go.Proofs.Ytfdgmoakobjohaa

/- Part StbR. -/
namespace Go.Proofs.Ytfdgmoakobjohaa
open Go.RowKit
set_option linter.unusedVariables false

structure HsAt (w wr : World) (l : List UInt8) (i : Nat) : Prop where
  le : i ≤ l.length
  no : ∀ j, j < i → (l.drop j).take 3 ≠ [45, 45, 62]
  bel : wr = w
def HsRel (w : World) (l : List UInt8) (x : Value) (wr : World) : Prop := ∃ i : Nat, x = .int .i64 i ∧ HsAt w wr l i

theorem raw_named {l : List UInt8} (h : rawB l = true) : ∀ x ∈ l, namC x = true := by
  unfold rawB at h
  rw [Bool.or_eq_true, decide_eq_true_eq, decide_eq_true_eq] at h
  rcases h with rfl | rfl <;> decide

theorem box_below5 {W W' : World} {k : Nat} {cs : Array Value} {t : TypeId} (h : W.heap[k]? = some (.cells cs t (0, 0))) (hb : Below W.heap.size W W') : W'.heap[k]? = some (.cells cs t (0, 0)) :=
  (hb.block k (Array.getElem?_eq_some_iff.1 h).1).trans h

structure AlAt (w wr : World) (l : List Nd) (i : Nat) : Prop where
  le : i ≤ l.length
  ok : stL (l.take i) = true
  bel : Below w.heap.size w wr
def AlRel (w : World) (l : List Nd) (x : Value) (wr : World) : Prop := ∃ i : Nat, x = .int .i64 i ∧ AlAt w wr l i
structure KdAt (w wr : World) (p : List UInt8) (l : List Nd) (i : Nat) : Prop where
  le : i ≤ l.length
  ok : (l.take i).all (fitsB p) = true
  bel : Below w.heap.size w wr
def KdRel (w : World) (p : List UInt8) (l : List Nd) (x : Value) (wr : World) : Prop := ∃ i : Nat, x = .int .i64 i ∧ KdAt w wr p l i

theorem stL_not {l : List Nd} {i : Nat} {n : Nd} (h : l[i]? = some n) (hn : stN n = false) : stL l = false := by
  rw [stL_all, List.all_eq_false]
  exact ⟨n, List.mem_of_getElem? h, by rw [hn]; decide⟩
theorem stL_snoc {l : List Nd} {i : Nat} {n : Nd} (h : l[i]? = some n) (hl : stL (l.take i) = true) (hn : stN n = true) : stL (l.take (i + 1)) = true := by
  rw [List.take_add_one, h, stL_append, hl]
  show (true && stL [n]) = true
  rw [stL_cons, stL_nil, hn]
  rfl

end Go.Proofs.Ytfdgmoakobjohaa

/- Part MergeK. -/
namespace Go.Proofs.Ytfdgmoakobjohaa
open Go.RowKit
set_option linter.unusedVariables false

structure MergeAtK (P : Nat → Prop) (w wr : World) (l : List Nd) (k : Nat) (v : Value) (out : List Nd) : Prop where
  le : k ≤ l.length
  is : mergeB (l.take k) = out
  own : OwnK wr w.heap.size P out v
  bel : Below w.heap.size w wr

def MergeRelK (P : Nat → Prop) (w : World) (l : List Nd) (x y : Value) (wr : World) : Prop := ∃ (k : Nat) (out : List Nd), y = .int .i64 k ∧ MergeAtK P w wr l k x out

end Go.Proofs.Ytfdgmoakobjohaa
