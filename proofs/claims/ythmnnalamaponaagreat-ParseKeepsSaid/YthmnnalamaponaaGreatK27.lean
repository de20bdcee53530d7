/- Parts of the proof, in build order: BdF Par8B Par8W EscR TxtR TxtS. -/
import Derived.Test.YthmnnalamaponaaGreatK26
import Derived.Test.YthmnnalamaponaaGreatK22
import Derived.Lib.SlBytesConst
import Derived.Test.YthmnnalamaponaaGreatK12
import Derived.Test.YthmnnalamaponaaGreatK05
import Derived.Test.YthmnnalamaponaaGreatK02
import Derived.Test.YthmnnalamaponaaGreatK06
import Derived.BigQuiet

/- Part BdF. -/
namespace Go.Proofs.YthmnnalamaponaaGreat
open Go.RowKit
set_option linter.unusedVariables false

/-! ### New -/
theorem new_state (w : World) : InvB w.heap.size [] (.pointer (some ⟨w.heap.size + 1, 0, none⟩)) ((w.alloc (.map #[] 0)).alloc (.cells #[.int .i64 0, .string ⟨#[]⟩, .slice none 0 0, .string ⟨#[]⟩, .pointer none, .slice none 0 0, .slice none 0 0, .slice none 0 0, .map (some w.heap.size)] 168)) := by
  obtain ⟨W, hW⟩ : ∃ W, (w.alloc (.map #[] 0)).alloc (.cells #[.int .i64 0, .string ⟨#[]⟩, .slice none 0 0, .string ⟨#[]⟩, .pointer none, .slice none 0 0, .slice none 0 0, .slice none 0 0, .map (some w.heap.size)] 168) = W := ⟨_, rfl⟩
  have hblk : W.heap[w.heap.size + 1]? = some (.cells #[.int .i64 0, .string ⟨#[]⟩, .slice none 0 0, .string ⟨#[]⟩, .pointer none, .slice none 0 0, .slice none 0 0, .slice none 0 0, .map (some w.heap.size)] 168 (0, 0)) := by
    rw [← hW]
    exact alloc_here' (by rw [World.size_alloc])
  have hsz : W.heap.size = w.heap.size + 2 := by rw [← hW]; simp
  have hc : CntAt W w.heap.size 0 (fun _ => 0) := by
    rw [← hW]
    exact (CntAt.made w).kept (Below.heap_alloc _ _ _ (by simp))
  rw [hW]
  have hX : ∀ b, (⟨w.heap.size + 1, w.heap.size, 0, .slice none 0 0, .slice none 0 0, [], [], none⟩ : Stt).X b → b = w.heap.size + 1 ∨ b = w.heap.size := by
    rintro b (h | h | h | ⟨t, h, _⟩)
    · exact .inl h
    · exact .inr h
    · cases h
    · cases h
  refine ⟨w.heap.size + 1, rfl, fun _ => False, fun _ => False, ⟨w.heap.size + 1, w.heap.size, 0, .slice none 0 0, .slice none 0 0, [], [], none⟩, rfl, rfl, Nat.le_refl _, fun _ => rfl, ⟨hblk, World.ownsRow_nil _ _ _ _, hc, ⟨⟨World.ownsRow_nil _ _ _ _, fun b hb => (by cases hb)⟩, fun r hr => (by cases hr)⟩, fun t ht => (by cases ht), fun b hb => hb.elim, fun b hb => hb.elim, fun b hb => hb.elim, fun b hb => ?_⟩, fun k hk => hk.elim⟩
  rcases hb with hb | hb | hb
  · exact hb.elim
  · exact hb.elim
  · rcases hX b hb with h | h <;> subst h <;> omega

set_option maxHeartbeats 1000000 in
set_option maxRecDepth 100000 in
theorem new_any (w : World) : Calls Tryz.prog 175 #[] w fun e w' => ∃ a, e = .returned (.pointer (some a)) ∧ InvB w.heap.size [] (.pointer (some a)) w' ∧ Below w.heap.size w w' := by
  have hmm := @run_makeMap Tryz.prog
  have HE := Lib.hid (And.intro (new_state w) (((Below.refl _ w).alloc (Nat.le_refl _) (.map #[] 0)).alloc (by simp) (.cells #[.int .i64 0, .string ⟨#[]⟩, .slice none 0 0, .string ⟨#[]⟩, .pointer none, .slice none 0 0, .slice none 0 0, .slice none 0 0, .map (some w.heap.size)] 168)))
  go_enter Tryz.func175, Tryz.ntmps175
  go_wp2_with fail
  go_ret
  exact ⟨_, rfl, HE.out.1, HE.out.2⟩

/-! ### Nodes -/
theorem calm_bel {F : Nat → Nat → Prop} {w w' w'' : World} (h : Calm F w w') (hb : Below w.heap.size w' w'') : Calm F w w'' := by
  refine ⟨hb.os.trans h.os, hb.tape.trans h.tape, hb.output.trans h.output, Nat.le_trans h.size hb.size, fun k hk => ?_⟩
  rw [hb.block k hk]
  exact h.blk k hk
set_option maxRecDepth 100000 in
theorem thaw_of {w : World} {base : Nat} {P : Nat → Prop} {l : List Nd} {v : Value} (h : OwnF w base P l v) : Thaw w l v := by
  obtain ⟨R, hl, hown, _, _, hf⟩ := h
  intro g k b o n c hk hg hc j hj
  have hkR : k < R.length := by rw [← hl, List.length_map] at hk; exact hk
  obtain ⟨r, hr⟩ : ∃ r, R[k]? = some r := ⟨_, List.getElem?_eq_getElem hkR⟩
  obtain ⟨A, c', hv, _⟩ := own_size hown
  subst hv
  obtain ⟨rfl, _⟩ : A = some ⟨g, 0, none⟩ ∧ True := by
    rcases hown.2 with ⟨h1, _⟩ | ⟨g', cap, cur, h1, _⟩
    · injection h1 with h1
      rw [h1] at hg
      cases hg
    · injection h1 with h1
      rw [h1] at hg
      injection hg with hg
      rw [h1, ← hg]
      exact ⟨rfl, trivial⟩
  have h2 := (hown.cellAt (k * 5 + 2) (by omega)).trans (ncells_at hr).2.2.1
  rw [hc] at h2
  injection h2 with h2
  obtain ⟨cur, hh⟩ := hf r (List.mem_of_getElem? hr) b o n c h2.symm
  exact froz_at hh _
set_option maxRecDepth 100000 in
/-- All of it, as nodes that are looked at. -/
theorem StAt.ptree {lo : Nat} {P Q : Nat → Prop} {s : Stt} {w : World} (h : StAt lo P Q s [] w) : PTree (· < w.heap.size) (fun k m => (lo ≤ k ∧ k < w.heap.size) ∧ s.F k m) w (nodesB (s.bst [])) s.vk0 := by
  have hf := h.frs
  rw [List.append_nil, ← s.tr_g] at hf
  have := FsAt.tree (T := (· < w.heap.size)) (F := fun k m => (lo ≤ k ∧ k < w.heap.size) ∧ s.F k m) (fun b hb => (h.lo b (.inr (.inl hb))).2) (fun k m hk => ⟨h.lo k (.inr (.inl hk)), fun t ht hb => absurd (.inr (.inr (.inr ⟨t, ht, .inr hb⟩)) : s.X k) (h.qx k hk)⟩) hf (fun b hb => (h.lo b (.inl hb)).2) (fun r hr => by
    unfold Stt.tr at hr
    cases ht : s.tl with
    | none => rw [ht] at hr; cases hr
    | some t =>
      rw [ht] at hr
      simp at hr
      subst hr
      have hX : ∀ k, (k = t.g ∨ t.bv.ownBlock = some k) → lo ≤ k ∧ k < w.heap.size := fun k hk => h.lo k (.inr (.inr (.inr (.inr (.inr ⟨t, ht, hk⟩)))))
      exact Tl.one (h.tl t ht) (hX _ (.inl rfl)).2 fun k hk => ⟨hX k (.inr hk), fun t' ht' _ => by rw [ht] at ht'; injection ht' with ht'; subst ht'; exact Nat.le_refl _⟩)
  rw [s.tr_n] at this
  unfold Stt.bst
  rw [clsL_nodes, List.append_nil]
  exact this

set_option maxHeartbeats 1000000 in
set_option maxRecDepth 100000 in
theorem nodes_anyB (lo : Nat) (ts : List Tk) (v : Value) (w : World) (hlo : lo ≤ w.heap.size) (h : InvB lo ts v w) (hz : szKs ts ≤ 40000000) :
    Calls Tryz.prog 177 #[v] w fun e w' => ∃ v', e = .returned v' ∧ OwnC w' w.heap.size w.heap.size (nodesB (bldB ts)) v' ∧ Thaw w' (nodesB (bldB ts)) v' ∧ (∀ w'', Below w.heap.size w' w'' → InvB lo ts v w'') ∧ Below lo w w' := by
  obtain ⟨a, rfl, P, Q, s, hsa, hsb, h3, h4, h5, h6⟩ := h
  have hp := h5.ptree
  obtain ⟨F, hF⟩ : ∃ F : Nat → Nat → Prop, (fun k m => (lo ≤ k ∧ k < w.heap.size) ∧ s.F k m) = F := ⟨_, rfl⟩
  rw [hF, hsb] at hp
  have hF1 : ∀ k m, F k m → lo ≤ k ∧ k < w.heap.size := by rw [← hF]; exact fun k m h => h.1
  have hF2 : ∀ k m, F k m → s.F k m := by rw [← hF]; exact fun k m h => h.2
  have htz := tree_sz ts
  have HT := Lib.hid (toldL_any F (nodesB (bldB ts)) s.vk0 w (fun k m h => (hF1 k m h).2) hp (by have : szL (nodesB (bldB ts)) ≤ szKs ts := htz; omega))
  have c6 : w.cell? ⟨a, 6, none⟩ = some s.vk0 := by rw [← hsa]; exact cell_at h5.blk 6
  obtain ⟨Ak, ck, hvk, _⟩ := hp.shape
  have HE := Lib.hid (fun (e : Ending) (w' : World) (h : ToldL F w (nodesB (bldB ts)) e w') => (by
    obtain ⟨v', rfl, ho, hc⟩ := h
    exact ⟨v', rfl, ho.ownK, thaw_of ho, fun w'' hb => ⟨a, rfl, P, Q, s, hsa, hsb, h3, h4, h5.calm (calm_bel hc hb) hF2, h6⟩, hc.bel hlo fun k m hk => (hF1 k m hk).1⟩ :
    ∃ v', e = .returned v' ∧ OwnC w' w.heap.size w.heap.size (nodesB (bldB ts)) v' ∧ Thaw w' (nodesB (bldB ts)) v' ∧ (∀ w'', Below w.heap.size w' w'' → InvB lo ts (.pointer (some ⟨a, 0, none⟩)) w'') ∧ Below lo w w'))
  rw [hvk] at c6 HT
  clear hp hF hF1 hF2 htz h5 h6 hvk h3 h4 hsa hsb
  go_enter Tryz.func177, Tryz.ntmps177
  go_wp2_with fail
  refine HT.out.mono ?_
  rintro e w1 ht
  obtain ⟨v', rfl, h1, h2, h3, h4⟩ := HE.out e w1 ht
  have HR := Lib.hid (And.intro h1 (And.intro h2 (And.intro h3 h4)))
  clear h1 h2 h3 h4 ht
  go_wp2_with fail
  go_ret
  exact ⟨v', rfl, HR.out.1, HR.out.2.1, HR.out.2.2.1, HR.out.2.2.2⟩

def TrRelB (w : World) (l : List Tk) (v : Value) (y : Value) (wr : World) : Prop := ∃ k : Nat, y = .int .i64 k ∧ k ≤ l.length ∧ InvB w.heap.size (l.take k) v wr ∧ Below w.heap.size w wr

set_option maxHeartbeats 4000000 in
set_option maxRecDepth 100000 in
theorem trees_said : TreesSaid := by
  intro l v w _ hT hkw hsz
  obtain ⟨A, c, rfl, hc⟩ := hT.shape
  have hlen := szKs_len l
  have HT := Lib.hid hT
  have HKW := Lib.hid hkw
  clear hT hkw
  go_enter Tryz.func174, Tryz.ntmps174
  go_wp2_with fail
  refine (new_any w).mono ?_
  rintro e w1 ⟨a, rfl, hi1, hb1⟩
  go_wp2_with fail
  go_loopw [9] (fun y wr => TrRelB w l (.pointer (some a)) y wr) (fun y _ => l.length - (intOf y).toNat)
  case atStart => exact ⟨0, rfl, Nat.zero_le _, hi1, hb1⟩
  case round =>
    obtain ⟨k, rfl, hk, hinv, hbr⟩ := hrel
    have hwz := hbr.size
    by_cases hlt : k < l.length
    · obtain ⟨b, o, c', hv, _, hb, hcell⟩ := HT.out.open_ (by omega)
      injection hv with hA hnn hcc
      clear hnn
      subst hA
      subst hcc
      obtain ⟨t, ht⟩ : ∃ t, l[k]? = some t := ⟨_, List.getElem?_eq_getElem hlt⟩
      obtain ⟨va, hat⟩ := hcell k t ht
      have q0 : wr.cell? ⟨b, o + k * 4, none⟩ = some (.int .i64 t.kind) := (hbr.cell (p := ⟨b, o + k * 4, none⟩) hb).trans hat.c0
      have q1 : wr.cell? ⟨b, o + k * 4 + 1, none⟩ = some (.string t.name) := (hbr.cell (p := ⟨b, o + k * 4 + 1, none⟩) hb).trans hat.c1
      have q2 : wr.cell? ⟨b, o + k * 4 + 2, none⟩ = some va := (hbr.cell (p := ⟨b, o + k * 4 + 2, none⟩) hb).trans hat.c2
      have q3 : wr.cell? ⟨b, o + k * 4 + 3, none⟩ = some (.string t.text) := (hbr.cell (p := ⟨b, o + k * 4 + 3, none⟩) hb).trans hat.c3
      have htk : l.take (k + 1) = l.take k ++ [t] := by rw [List.take_add_one, ht, Option.toList_some]
      have hsz1 : szKs (l.take k ++ [t]) ≤ 40000000 := by
        rw [← htk]
        have : szKs l = szKs (l.take (k + 1)) + szKs (l.drop (k + 1)) := by rw [← szKs_append, List.take_append_drop]
        omega
      have HPUT := Lib.hid (fun (W : World) (hW : Below wr.heap.size wr W) => put_any w.heap.size (l.take k) (.pointer (some a)) W t va (Nat.le_trans hwz hW.size) (by
        obtain ⟨a', ha', hi⟩ := hinv
        exact ⟨a', ha', hi.keep hW⟩) ((hat.at_.keep (Kept.belowB (hbr.trans (hW.mono hwz)) fun b h => h)).mono fun b h => Nat.lt_of_lt_of_le h (Nat.le_trans hwz hW.size)) (HKW.out t (List.mem_of_getElem? ht)) hsz1)
      have HTK := Lib.hid htk
      obtain ⟨A3, c3, rfl, _, _⟩ := id hat.at_
      have i1 : (k : Int) < (l.length : Int) := by omega
      have i2 : (0 : Int) ≤ (k : Int) := by omega
      have hbw : b < wr.heap.size := Nat.lt_of_lt_of_le hb hwz
      have hbn : b ≠ wr.heap.size := by omega
      have HBR := Lib.hid hbr
      clear hcell ht hat htk hinv hbr
      go_wp2_with fail
      refine (HPUT.out _ (below_new _ _)).mono ?_
      rintro e w3 ⟨⟨x, rfl⟩, hi3, hb3⟩
      have HI3 := Lib.hid (show InvB w.heap.size (l.take (k + 1)) (.pointer (some a)) w3 by rw [HTK.out]; exact hi3)
      have HB3 := Lib.hid ((HBR.out.alloc hwz _).trans hb3)
      clear hi3 hb3 q0 q1 q2 q3
      go_wp2_with fail
      go_roundw
      case rel => exact ⟨k + 1, by go_num, hlt, HI3.out, HB3.out⟩
      case measure => simp [intOf]; omega
    · have hke : k = l.length := by omega
      have hit : l.take k = l := by rw [hke, List.take_length]
      rw [hit] at hinv
      have i1 : ¬ ((k : Int) < (l.length : Int)) := by omega
      have HN := Lib.hid (nodes_anyB w.heap.size l (.pointer (some a)) wr hwz hinv hsz)
      have HBR := Lib.hid hbr
      clear hinv hit hbr
      go_wp2_with fail
      refine HN.out.mono ?_
      rintro e w3 ⟨v3, rfl, ho3, _, _, hb3⟩
      have HE := Lib.hid (show Tree (· < w3.heap.size) w3 (treeB l) v3 from (OwnC.tree ho3 (Nat.le_refl _)).mono fun b h => h.2)
      have HB3 := Lib.hid (HBR.out.trans hb3)
      clear ho3 hb3
      go_wp2_with fail
      go_ret
      exact ⟨v3, rfl, HE.out, HB3.out⟩

end Go.Proofs.YthmnnalamaponaaGreat

/- Part Par8B. -/
namespace Go.Proofs.YthmnnalamaponaaGreat
open Go.RowKit
set_option linter.unusedVariables false

set_option maxRecDepth 100000 in
theorem bytes8_said : BytesSaid := by
  intro A n c l w HG hs hn hc hm
  have HP := Lib.hid (parsed_any trees_said (parseB (right l)) 3 _ w HG (.src A c l hs (by omega) rfl))
  rw [← hn] at HP
  obtain ⟨R, hR⟩ : ∃ R, parseB (right l) = R := ⟨_, rfl⟩
  rw [hR] at HP
  rw [hR]
  clear hs hn hR
  go_enter Tryz.func13, Tryz.ntmps13
  go_wp2_with fail
  refine HP.out.mono ?_
  rintro e w1 ⟨v, rfl, hT, hb⟩
  obtain ⟨A', c', rfl, _⟩ := hT.shape
  have HT := Lib.hid hT
  clear hT
  go_wp2_with fail
  go_ret
  exact ⟨_, rfl, HT.out, hb⟩

set_option maxRecDepth 100000 in
theorem text8_said : TextSaid := by
  intro s w HG hi hm
  have HP := Lib.hid (parsed_any trees_said (parseB s.data.toList) 2 _ w HG (.txt s hi hm rfl))
  obtain ⟨R, hR⟩ : ∃ R, parseB s.data.toList = R := ⟨_, rfl⟩
  rw [hR] at HP
  rw [hR]
  clear hi hR
  go_enter Tryz.func16, Tryz.ntmps16
  go_wp2_with fail
  refine HP.out.mono ?_
  rintro e w1 ⟨v, rfl, hT, hb⟩
  obtain ⟨A', c', rfl, _⟩ := hT.shape
  have HT := Lib.hid hT
  clear hT
  go_wp2_with fail
  go_ret
  exact ⟨_, rfl, HT.out, hb⟩

theorem asr1_txt (v : Value) (w : World) : (Instr.typeAssert (.iface 43 v) 60 43 false).run Tryz.prog w = .ok v w := by kernel_rfl

set_option maxRecDepth 100000 in
theorem written8_any (l : List Nd) (v : Value) (w : World) (hT : Tree (· < w.heap.size) w l v) (hz : szL l ≤ 100000) :
    Calls Tryz.prog 24 #[v] w fun e w' => ∃ s : ByteArray, e = .returned (.string s) ∧ s.data.toList = txtL false l ∧ Below w.heap.size w w' := by
  have HR := Lib.hid (nextL_any l v w hT hz)
  obtain ⟨A, c, rfl, hc⟩ := hT.shape
  clear hT hc
  have a1 := asr1_txt
  go_enter Tryz.func24, Tryz.ntmps24
  go_wp2_with fail
  refine HR.out.mono ?_
  rintro e w1 ⟨s, rfl, hs, hb⟩
  have HS := Lib.hid hs
  clear hs
  go_wp2_with fail
  go_ret
  exact ⟨s, rfl, HS.out, hb⟩

set_option maxRecDepth 100000 in
theorem again8_said : AgainSaid := by
  intro l S v w HG hT hS hgood hz
  have hT0 := hT.mono hS
  have HM := Lib.hid (mayD_any S l v w hT hS hz)
  rw [good_may hgood] at HM
  have HW := Lib.hid (fun (W : World) (h : Below w.heap.size w W) => written8_any l v W ((hT0.stay h).mono fun b hb => Nat.lt_of_lt_of_le hb h.size) hz)
  have HI := Lib.hid (rt_txt l hgood false)
  have HL := Lib.hid (txt_len l false)
  have HX := Lib.hid text8_said
  obtain ⟨A, c, rfl, hc⟩ := hT.shape
  obtain ⟨n, hn⟩ : ∃ n, l.length = n := ⟨_, rfl⟩
  rw [hn] at HM HW
  rw [hn]
  clear hT hc hT0 hgood hn
  go_enter Tryz.func11, Tryz.ntmps11
  go_wp2_with fail
  refine HM.out.mono ?_
  rintro e w1 ⟨rfl, hb1⟩
  go_wp2_with fail
  refine (HW.out w1 hb1).mono ?_
  rintro e w2 ⟨s, rfl, hs, hb2⟩
  have hB2 := below_after hb1 hb2
  have HT := Lib.hid (HX.out s w2 (HG.below hB2) (by rw [hs]; exact HI.out) (by
    have h1 : s.data.toList.length = s.size := Array.length_toList
    rw [hs] at h1
    have h2 := HL.out
    omega))
  rw [hs] at HT
  obtain ⟨R, hR⟩ : ∃ R, parseB (txtL false l) = R := ⟨_, rfl⟩
  rw [hR] at HT
  have HRR := Lib.hid hR
  clear hs hR
  go_wp2_with fail
  refine HT.out.mono ?_
  rintro e w3 ⟨v', rfl, hT, hb3⟩
  obtain ⟨A', c', rfl, _⟩ := hT.shape
  have HTT := Lib.hid hT
  clear hT
  have hB3 := below_after hB2 hb3
  go_wp2_with fail
  go_ret
  refine ⟨_, rfl, ?_, hB3⟩
  rw [HRR.out]
  exact HTT.out

set_option maxRecDepth 100000 in
theorem keeps8_said : KeepsSaid := by
  intro l S v w HG hT hS hgood hz
  have hT0 := hT.mono hS
  have HA := Lib.hid (again8_said l S v w HG hT hS hgood hz)
  have hq : sameL (parseB (txtL false l)) l = stL l := by
    cases hs : stL l with
    | true => rw [sameL_iff]; exact (keep_iff hgood).2 hs
    | false => exact sameL_ne fun e => by rw [(keep_iff hgood).1 e] at hs; cases hs
  have hzR : szL (parseB (txtL false l)) ≤ 100000000 := by
    have h1 := parse_sz (txtL false l)
    have h2 := txt_len l false
    omega
  obtain ⟨R, hR⟩ : ∃ R, parseB (txtL false l) = R := ⟨_, rfl⟩
  rw [hR] at HA hq hzR
  have HS := Lib.hid (fun (W : World) (v' : Value) (h : Below w.heap.size w W) (ht : Tree (· < W.heap.size) W R v') =>
    sameD_any R l _ (· < w.heap.size) v' v W ht (hT0.stay h) (fun k hk => hk) (fun k hk => Nat.lt_of_lt_of_le hk h.size) hzR (by omega))
  rw [hq] at HS
  obtain ⟨A, c, rfl, hc⟩ := hT.shape
  obtain ⟨n, hn⟩ : ∃ n, l.length = n := ⟨_, rfl⟩
  rw [hn] at HA HS
  rw [hn]
  obtain ⟨r, hr⟩ : ∃ r, stL l = r := ⟨_, rfl⟩
  rw [hr] at HS
  rw [hr]
  clear hT hc hT0 hgood hn hq hzR hR hr
  go_enter Tryz.func8, Tryz.ntmps8
  go_wp2_with fail
  refine HA.out.mono ?_
  rintro e w1 ⟨v', rfl, hT, hb1⟩
  have HSS := Lib.hid (HS.out w1 v' hb1 hT)
  obtain ⟨A', c', rfl, _⟩ := hT.shape
  obtain ⟨m, hm⟩ : ∃ m, R.length = m := ⟨_, rfl⟩
  rw [hm] at HSS
  rw [hm]
  clear hT hm
  go_wp2_with fail
  refine HSS.out.mono ?_
  rintro e w2 ⟨rfl, hb2⟩
  have hB2 := below_after hb1 hb2
  go_wp2_with fail
  go_ret
  exact ⟨rfl, hB2⟩

end Go.Proofs.YthmnnalamaponaaGreat

/- Part Par8W. -/
namespace Go.Proofs.YthmnnalamaponaaGreat
open Go.RowKit
set_option linter.unusedVariables false

set_option maxHeartbeats 4000000 in
set_option maxRecDepth 100000 in
theorem lives8_any (HB : BytesSaid) (HK : KeepsSaid) (w : World) (HGB : Glob w) : Calls Tryz.prog 12 #[] w fun e w' => e = .returned (.bool true) ∧ Below w.heap.size w w' := by
  have kc := fun (w : World) (C : Array Value) (n c : Nat) => Lib.run_convert_bytes_const (P := Tryz.prog) w 27 5 C n c Tryz.underlying27 Tryz.underlying5
  go_enter Tryz.func12, Tryz.ntmps12
  go_wp2_with fail
  refine (HB (some ⟨w.heap.size, 0, none⟩) 10 10 l8S _ (HGB.below ((Below.refl _ w).alloc (Nat.le_refl _) _)) ?_ rfl (by omega) (by omega)).mono ?_
  · intro _
    refine ⟨w.heap.size, 0, rfl, by simp, fun j u hu => ?_⟩
    rw [World.cell?_alloc_mark, Nat.zero_add]
    simpa [Lib.byteCells, l8S] using hu
  rw [l8_parse]
  rintro e w1 ⟨v, rfl, hT, hb⟩
  have hb1 : Below w.heap.size w w1 := below_after ((Below.refl _ w).alloc (Nat.le_refl _) _) hb
  have hT2 : Tree (· < w1.heap.size) w1 l8N v := hT
  have HKP := Lib.hid (HK l8N _ v w1 (HGB.below hb1) hT2 (fun b h => h) l8_ok.1 (by decide))
  rw [l8_ok.2] at HKP
  obtain ⟨b, o, c, rfl, hc, hSb, hcell⟩ := hT2.open_ (by decide)
  obtain ⟨va0, vk0, k0⟩ := hcell 0 _ rfl
  obtain ⟨va1, vk1, k1⟩ := hcell 1 _ rfl
  obtain ⟨d, m, cm, rfl, hcm, hSd, hkid⟩ := k0.kids.open_ (by decide)
  obtain ⟨va2, vk2, k2⟩ := hkid 0 _ rfl
  have c01 : w1.cell? ⟨b, o + 1, none⟩ = some (.string ⟨#[112]⟩) := k0.c1
  have c04 : w1.cell? ⟨b, o + 4, none⟩ = some (.slice (some ⟨d, m, none⟩) 1 cm) := k0.c4
  have c11 : w1.cell? ⟨b, o + 5 + 1, none⟩ = some (.string ⟨#[100, 105, 118]⟩) := k1.c1
  have d03 : w1.cell? ⟨d, m + 3, none⟩ = some (.string ⟨#[97]⟩) := k2.c3
  have hln : l8N.length = 2 := rfl
  rw [hln] at HKP hc ⊢
  clear hT hT2 hcell k0 k1 hkid k2 hln hb
  go_wp2_with fail
  refine HKP.out.mono ?_
  rintro e w2 ⟨rfl, hb2⟩
  go_wp2_with fail
  go_ret
  exact ⟨rfl, below_after hb1 hb2⟩

/-- Right's answer is small where the text is. -/
theorem few8_any (A : Option Addr) (n c : Nat) (l : List UInt8) (w : World) (hs : Sits w w.heap.size A (Lib.byteCells l)) (hn : n = l.length) (hc : n ≤ c) (hm : n ≤ maxLen) :
    Calls Tryz.prog 14 #[.slice A n c] w fun e w' => w = w' ∧ ∃ n', e = .returned (.slice A n' c) ∧ n' = (l.take 300).length ∧ n' ≤ c ∧ n' ≤ 300 := by
  unfold maxLen at hm
  by_cases h : 300 < n
  · have s1 : ∀ W, (Instr.slice 27 (.slice A n c) none (some (.int .i64 300)) none).run Tryz.prog W = .ok (.slice A 300 c) W := fun W => cut_head W A n c 300 (by omega)
    have hl : 300 = (l.take 300).length := by rw [List.length_take]; omega
    have HL := Lib.hid hl
    clear hs hn hl
    go_enter Tryz.func14, Tryz.ntmps14
    go_wp2_with fail
    go_ret
    exact ⟨rfl, 300, rfl, HL.out, by omega, by omega⟩
  · have hl : n = (l.take 300).length := by rw [List.length_take]; omega
    have HL := Lib.hid hl
    clear hs hn hl
    go_enter Tryz.func14, Tryz.ntmps14
    go_wp2_with fail
    go_ret
    exact ⟨rfl, n, rfl, HL.out, hc, by omega⟩

set_option maxHeartbeats 4000000 in
set_option maxRecDepth 100000 in
theorem parseMay_end (HB : BytesSaid) (HK : KeepsSaid) (A : Option Addr) (n c : Nat) (l : List UInt8) (w : World) (hs : Sits w w.heap.size A (Lib.byteCells l)) (hn : n = l.length) (hc : n ≤ c) (hm : n ≤ maxLen) (HGB : Glob w) :
    Calls Tryz.prog 4 #[.slice A n c] w fun e w' => e = .returned (.bool true) ∧ Below w.heap.size w w' := by
  have HF := Lib.hid (few8_any A n c l w hs hn hc hm)
  have HBY := Lib.hid (fun (n' : Nat) (h1 : n' = (l.take 300).length) (h2 : n' ≤ c) (h3 : n' ≤ 300) => HB A n' c (l.take 300) w HGB (by
    have := hs.take 300
    rwa [show (Lib.byteCells l).take 300 = Lib.byteCells (l.take 300) by unfold Lib.byteCells; rw [List.map_take]] at this) h1 h2 (by omega))
  have hz : szL (parseB (right (l.take 300))) ≤ 100000 := by
    have h1 := parse_sz (right (l.take 300))
    have h2 := right_len (l.take 300)
    rw [List.length_take] at h2
    omega
  have hok := parse_ok (isB_right (l.take 300))
  obtain ⟨T, hT⟩ : ∃ T, parseB (right (l.take 300)) = T := ⟨_, rfl⟩
  rw [hT] at HBY hz hok
  have HOK := Lib.hid hok
  clear hT hok hs hn hc hm
  go_enter Tryz.func4, Tryz.ntmps4
  go_wp2_with fail
  refine HF.out.mono ?_
  rintro e w0 ⟨rfl, n', rfl, h1, h2, h3⟩
  have HBB := Lib.hid (HBY.out n' h1 h2 h3)
  clear h1 h2 h3
  go_wp2_with fail
  refine HBB.out.mono ?_
  rintro e w1 ⟨v, rfl, ht, hb1⟩
  have HT := Lib.hid (fun (W : World) (h : Below w1.heap.size w1 W) => ht.stay h)
  have HM := Lib.hid (fun (W : World) (h : Below w1.heap.size w1 W) => mayR_any T _ v W (HT.out W h) (fun b hb => Nat.lt_of_lt_of_le hb h.size) hz)
  have HS := Lib.hid (fun (W : World) (h : Below w1.heap.size w1 W) => stableR_any T _ v W (HT.out W h) (fun b hb => Nat.lt_of_lt_of_le hb h.size) hz)
  have HKP := Lib.hid (fun (W : World) (h : Below w1.heap.size w1 W) => HK T _ v W (HGB.below (below_after hb1 h)) (HT.out W h) (fun b hb => Nat.lt_of_lt_of_le hb h.size) HOK.out.1 hz)
  rw [good_may HOK.out.1] at HM
  rw [HOK.out.2] at HKP
  rw [show stableB T = true by unfold stableB; rw [good_may HOK.out.1, HOK.out.2]; rfl] at HS
  have hr1 := Below.refl w1.heap.size w1
  clear ht
  go_wp2_with fail
  refine (HM.out _ hr1).mono ?_
  rintro e w2 ⟨rfl, hb2⟩
  have hc2 := below_after hr1 hb2
  go_wp2_with fail
  refine (HS.out _ hc2).mono ?_
  rintro e w3 ⟨rfl, hb3⟩
  have hc3 := below_after hc2 hb3
  go_wp2_with fail
  refine (HKP.out _ hc3).mono ?_
  rintro e w4 ⟨rfl, hb4⟩
  have hc4 := below_after hc3 hb4
  go_wp2_with fail
  refine (lives8_any HB HK _ (HGB.below (below_after hb1 hc4))).mono ?_
  rintro e w5 ⟨rfl, hb5⟩
  have hc5 := below_after hc4 hb5
  go_wp2_with fail
  go_ret
  exact ⟨rfl, below_after hb1 hc5⟩

set_option maxHeartbeats 4000000 in
set_option maxRecDepth 100000 in
theorem parseKeeps_end (HB : BytesSaid) (HK : KeepsSaid) (HA : AgainSaid) (l : List Nd) (v : Value) (w : World) (hT : Tree (· < w.heap.size) w l v) (hF : Fine l) (HGB : Glob w) :
    Calls Tryz.prog 3 #[v] w fun e w' => e = .returned (.bool true) ∧ Below w.heap.size w w' := by
  have HG := Lib.hid (goodR_any l v w hT hF)
  have HS := Lib.hid (fun (W : World) (h : Below w.heap.size w W) => goodR6_any l v W ((hT.stay h).mono fun b hb => Nat.lt_of_lt_of_le hb h.size) hF)
  clear hT hF
  go_enter Tryz.func3, Tryz.ntmps3
  go_wp2_with fail
  refine HG.out.mono ?_
  rintro e w2 ⟨G, vG, rfl, hoG, hgG, hzG, hb2⟩
  have htG2 : Tree (· < w2.heap.size) w2 G vG := (OwnC.tree hoG (Nat.le_refl _)).mono fun b h => h.2
  have HS2 := Lib.hid (HS.out w2 hb2)
  have HT2 := Lib.hid htG2
  have HGG := Lib.hid hgG
  clear hoG hgG htG2
  go_wp2_with fail
  refine HS2.out.mono ?_
  rintro e w3 ⟨G3, vS, rfl, htS, hgS, hzS, hb3⟩
  have hzS2 := steady_sz G3
  have hok := steady_good hgS
  obtain ⟨Q, hQ⟩ : ∃ Q, steadyB G3 = Q := ⟨_, rfl⟩
  rw [hQ] at htS hzS2 hok
  have HOK := Lib.hid hok
  have HT3 := Lib.hid (fun (W : World) (h : Below w3.heap.size w3 W) =>
    (show (Tree (· < w3.heap.size) W G vG ∧ Tree (· < w3.heap.size) W Q vS) from
      ⟨((HT2.out.stay hb3).mono fun b h => Nat.lt_of_lt_of_le h hb3.size).stay h, (htS.mono fun b h => h.2).stay h⟩))
  have HB3 := Lib.hid (below_after hb2 hb3)
  have HM1 := Lib.hid (fun (W : World) (h : Below w3.heap.size w3 W) => HK G _ vG W (HGB.below (below_after HB3.out h)) (HT3.out W h).1 (fun b hb => Nat.lt_of_lt_of_le hb h.size) HGG.out (by omega))
  have HR1 := Lib.hid (fun (W : World) (h : Below w3.heap.size w3 W) => stableR_any G _ vG W (HT3.out W h).1 (fun b hb => Nat.lt_of_lt_of_le hb h.size) (by omega))
  have HM2 := Lib.hid (fun (W : World) (h : Below w3.heap.size w3 W) => HK Q _ vS W (HGB.below (below_after HB3.out h)) (HT3.out W h).2 (fun b hb => Nat.lt_of_lt_of_le hb h.size) HOK.out.1 (by omega))
  have HAG := Lib.hid (fun (W : World) (h : Below w3.heap.size w3 W) => HA Q _ vS W (HGB.below (below_after HB3.out h)) (HT3.out W h).2 (fun b hb => Nat.lt_of_lt_of_le hb h.size) HOK.out.1 (by omega))
  have HSM := Lib.hid (fun (W W' : World) (v' : Value) (h : Below w3.heap.size w3 W) (hb : Below W.heap.size W W') (ht : Tree (· < W'.heap.size) W' Q v') =>
    sameR_any Q Q (fun b => b < W'.heap.size) (· < w3.heap.size) v' vS W' ht (HT3.out W' (below_after h hb)).2 (fun b h => h) (fun b hk => Nat.lt_of_lt_of_le hk (below_after h hb).size) (by omega) (by omega))
  rw [show stableB G = stL G by unfold stableB; rw [good_may HGG.out]; rfl] at HR1
  rw [HOK.out.2] at HM2
  rw [parse_write HOK.out.1 HOK.out.2] at HAG
  rw [(sameL_iff Q Q).2 rfl] at HSM
  obtain ⟨s1, hs1⟩ : ∃ s, stL G = s := ⟨_, rfl⟩
  rw [hs1] at HM1 HR1
  have B1 : (s1 == s1) = true := by cases s1 <;> rfl
  clear htS hQ hs1 hb2 hb3 hzG hzS hzS2 hok hgS
  have hr3 := Below.refl w3.heap.size w3
  go_wp2_with fail
  refine (HM1.out _ hr3).mono ?_
  rintro e w4 ⟨rfl, hb4⟩
  have hc4 := below_after hr3 hb4
  go_wp2_with fail
  refine (HR1.out _ hc4).mono ?_
  rintro e w5 ⟨rfl, hb5⟩
  have hc5 := below_after hc4 hb5
  go_wp2_with fail
  refine (HM2.out _ hc5).mono ?_
  rintro e w6 ⟨rfl, hb6⟩
  have hc6 := below_after hc5 hb6
  go_wp2_with fail
  refine (HAG.out _ hc6).mono ?_
  rintro e w7 ⟨v7, rfl, ht7, hb7⟩
  have hc7 := below_after hc6 hb7
  have HSS := Lib.hid (HSM.out _ _ _ hc6 hb7 ht7)
  clear ht7
  go_wp2_with fail
  refine HSS.out.mono ?_
  rintro e w8 ⟨rfl, hb8⟩
  have hc8 := below_after hc7 hb8
  go_wp2_with fail
  refine (lives8_any HB HK _ (HGB.below (below_after HB3.out hc8))).mono ?_
  rintro e w9 ⟨rfl, hb9⟩
  have hc9 := below_after hc8 hb9
  go_wp2_with fail
  go_ret
  exact ⟨rfl, below_after HB3.out hc9⟩

end Go.Proofs.YthmnnalamaponaaGreat

/- Part EscR. -/
namespace Go.Proofs.YthmnnalamaponaaGreat
open Go.RowKit
set_option linter.unusedVariables false

set_option maxHeartbeats 1000000 in
set_option maxRecDepth 100000 in
theorem escapeR_any (s : ByteArray) (v : Bool) (w : World) (hm : s.size ≤ 140000) :
    Calls Tryz.prog 44 #[.string s, .bool v] w fun e w' => e = .returned (.string ⟨(escB v s.data.toList).toArray⟩) ∧ w = w' := by
  obtain ⟨l, hl⟩ : ∃ l, s.data.toList = l := ⟨_, rfl⟩
  have hsz : s.size = l.length := by rw [← hl]; simp
  have HSL := Lib.hid hl
  have HSZ := Lib.hid hsz
  have hll : l.length ≤ 140000 := by omega
  have hat : ∀ k, (h : k < s.size) → l[k]? = some s[k] := by
    intro k h
    rw [← hl, List.getElem?_eq_getElem (by simpa using h)]
    rw [at_data s k h]
  have HAT := Lib.hid hat
  rw [hl]
  clear hl hsz hat
  go_enter Tryz.func44, Tryz.ntmps44
  go_wp2_with fail
  go_loop [5, 6] (fun x y => ∃ (o : ByteArray) (k : Nat), x = .string o ∧ y = .int .i64 k ∧ k ≤ l.length ∧ Hid (o.data.toList = escB v (l.take k)) ∧ o.size ≤ 6 * k) (fun _ y => s.size - (intOf y).toNat)
  case atStart => exact ⟨⟨#[]⟩, 0, rfl, rfl, by omega, Lib.hid rfl, Nat.le_refl _⟩
  case round =>
    obtain ⟨o, k, rfl, rfl, hk, HO, ho⟩ := hrel
    by_cases hlt : k < s.size
    · have hgk := HAT.out k hlt
      obtain ⟨c, hc⟩ : ∃ c, s[k] = c := ⟨_, rfl⟩
      rw [hc] at hgk
      have HG := Lib.hid hgk
      have ht := take_snoc' hgk
      have HTk := Lib.hid ht
      clear hgk ht
      have hstep : ∀ x : List UInt8, wrC v c = x → ∀ o' : ByteArray, o'.data.toList = o.data.toList ++ x → o'.data.toList = escB v (l.take (k + 1)) := by
        intro x hx o' ho'
        rw [HTk.out, escB_append, ← HO.out, ho', escB_cons, escB_nil, hx, List.append_nil]
      have HST := Lib.hid hstep
      clear hstep
      have hz : o.size ≤ 1000000 := by omega
      have hfin : ∀ x : List UInt8, x.length ≤ 6 → wrC v c = x → ∀ q : ByteArray, q.data.toList = x → ∃ (o' : ByteArray) (k' : Nat), Value.string (o ++ q) = .string o' ∧ Value.int .i64 ((k : Int) + 1) = .int .i64 k' ∧ k' ≤ l.length ∧ Hid (o'.data.toList = escB v (l.take k')) ∧ o'.size ≤ 6 * k' := by
        intro x hx6 hx q hq
        refine ⟨o ++ q, k + 1, rfl, by go_num, by have := HSZ.out; omega, Lib.hid (HST.out x hx _ (by rw [ByteArray.data_append, Array.toList_append, hq])), ?_⟩
        rw [ByteArray.size_append, str_list q, hq]
        omega
      have HFN := Lib.hid hfin
      clear hfin
      have hmid : ∀ x : UInt8, s[k] = x → (s.extract k (k + 1)).data.toList = [x] := by
        intro x hx
        have hg := HG.out
        rw [mid_extract, HSL.out, show k + 1 - k = 1 by omega]
        have := List.drop_eq_getElem_cons (l := l) (i := k) (by have := HSZ.out; omega)
        rw [this]
        rw [List.getElem?_eq_getElem (by have := HSZ.out; omega)] at hg
        injection hg with hg
        rw [hg, ← hc, hx]
        rfl
      have HMD := Lib.hid (hmid c hc)
      have hez : (s.extract k (k + 1)).size ≤ 1 := by rw [ByteArray.size_extract]; omega
      clear hmid
      by_cases a : c = 38
      · subst a
        have A : ((s[k].toNat : Int) == 38) = true := by rw [hc]; rfl
        have HW := Lib.hid (show wrC v 38 = [38, 97, 109, 112, 59] from rfl)
        clear hc
        go_wp2_with fail
        go_round
        case rel => exact HFN.out _ (by simp) HW.out _ rfl
        case measure => simp [intOf]; omega
      have hn : ∀ n : Nat, n < 256 → c ≠ n.toUInt8 → ((s[k].toNat : Int) == (n : Int)) = false := by
        intro n h1 h2
        rw [hc, beq_eq_false_iff_ne]
        intro e
        apply h2
        apply UInt8.toNat_inj.1
        simp
        omega
      have A : ((s[k].toNat : Int) == 38) = false := hn 38 (by omega) a
      by_cases b : c = 60
      · subst b
        have B : ((s[k].toNat : Int) == 60) = true := by rw [hc]; rfl
        have HW := Lib.hid (show wrC v 60 = [38, 108, 116, 59] from rfl)
        clear hc a hn
        go_wp2_with fail
        go_round
        case rel => exact HFN.out _ (by simp) HW.out _ rfl
        case measure => simp [intOf]; omega
      have B : ((s[k].toNat : Int) == 60) = false := hn 60 (by omega) b
      by_cases d : c = 62
      · subst d
        have C : ((s[k].toNat : Int) == 62) = true := by rw [hc]; rfl
        have HW := Lib.hid (show wrC v 62 = [38, 103, 116, 59] from rfl)
        clear hc a b hn
        go_wp2_with fail
        go_round
        case rel => exact HFN.out _ (by simp) HW.out _ rfl
        case measure => simp [intOf]; omega
      have C : ((s[k].toNat : Int) == 62) = false := hn 62 (by omega) d
      have hk1 : (k : Int) + 1 ≤ (s.size : Int) := by omega
      by_cases e : c = 34
      · subst e
        have D : ((s[k].toNat : Int) == 34) = true := by rw [hc]; rfl
        cases v with
        | true =>
          have HW := Lib.hid (show wrC true 34 = [38, 113, 117, 111, 116, 59] from rfl)
          clear hc a b d hn
          go_wp2_with fail
          go_round
          case rel => exact HFN.out _ (by simp) HW.out _ rfl
          case measure => simp [intOf]; omega
        | false =>
          have HW := Lib.hid (show wrC false 34 = [34] from rfl)
          clear hc a b d hn
          go_wp2_with fail
          go_round
          case rel => exact HFN.out _ (by simp) HW.out _ HMD.out
          case measure => simp [intOf]; omega
      have D : ((s[k].toNat : Int) == 34) = false := hn 34 (by omega) e
      have HW := Lib.hid (show wrC v c = [c] by apply wrC_same; unfold wrB; rw [if_neg a, if_neg b, if_neg d, if_neg (fun h => e h.1)])
      clear hc a b d e hn
      go_wp2_with fail
      go_round
      case rel => exact HFN.out _ (by simp) HW.out _ HMD.out
      case measure => simp [intOf]; omega
    · have hF : (⟨(escB v l).toArray⟩ : ByteArray) = o := by
        have := HO.out
        rw [List.take_of_length_le (by have := HSZ.out; omega)] at this
        rw [← this]
      have HF := Lib.hid hF
      clear hF
      go_wp2_with fail
      go_ret
      rw [HF.out]
      exact ⟨rfl, rfl⟩

end Go.Proofs.YthmnnalamaponaaGreat

/- Part TxtR. -/
namespace Go.Proofs.YthmnnalamaponaaGreat
open Go.RowKit
set_option linter.unusedVariables false

theorem cat_list (a b : ByteArray) : (a ++ b).data.toList = a.data.toList ++ b.data.toList := by simp


structure OpAt (w wr : World) (n : Nd) (k : Nat) (o : ByteArray) : Prop where
  le : k ≤ n.attrs.length
  is : o.data.toList = 60 :: (n.name.data.toList ++ (n.attrs.take k).flatMap attT)
  bel : Below w.heap.size w wr
def OpRel (w : World) (n : Nd) (x y : Value) (wr : World) : Prop := ∃ (k : Nat) (o : ByteArray), x = .string o ∧ y = .int .i64 k ∧ OpAt w wr n k o

theorem atts_take_len (l : List (ByteArray × ByteArray)) (k : Nat) : ((l.take k).flatMap attT).length ≤ 6 * szA l := by
  have h1 := atts_len (l.take k)
  have h2 : szA l = szA (l.take k) + szA (l.drop k) := by rw [← szA_append, List.take_append_drop]
  omega

set_option maxHeartbeats 2000000 in
set_option maxRecDepth 100000 in
theorem openR4_any (S : Nat → Prop) (n : Nd) (va vk : Value) (w : World) (hat : AttrsAt S w n.attrs va) (hk : ∃ A c, vk = .slice A n.kids.length c) (hS : ∀ b, S b → b < w.heap.size) (hsz : szN n ≤ 140000) :
    Calls Tryz.prog 46 #[.agg #[.int .i64 n.kind, .string n.name, va, .string n.text, vk]] w fun e w' =>
      ∃ s : ByteArray, e = .returned (.string s) ∧ s.data.toList = openE n ∧ Below w.heap.size w w' := by
  have hne := szN_eq n
  have hla := szA_len n.attrs
  have hns : n.name.size ≤ 140000 := by omega
  have hal : n.attrs.length ≤ 140000 := by omega
  have has : szA n.attrs ≤ 140000 := by omega
  obtain ⟨A2, c2, rfl⟩ := hk
  obtain ⟨A1, c1, rfl, _, _⟩ := id hat
  have HAT := Lib.hid hat
  have HS := Lib.hid hS
  clear hat hS hne hsz hla
  by_cases h1 : n.kind = 1
  · rw [show openE n = openT n from if_pos h1, h1]
    clear h1
    go_enter Tryz.func46, Tryz.ntmps46
    go_wp2_with fail
    obtain ⟨W1, hW1⟩ : ∃ W1, w.alloc (.cells #[.int .i64 1, .string n.name, .slice A1 n.attrs.length c1, .string n.text, .slice A2 n.kids.length c2] 35) = W1 := ⟨_, rfl⟩
    have d2 : W1.cell? ⟨w.heap.size, 2, none⟩ = some (.slice A1 n.attrs.length c1) := by rw [← hW1, World.cell?_alloc_mark]; rfl
    have hz1 : w.heap.size < W1.heap.size := by rw [← hW1]; simp
    have hbW : Below w.heap.size w W1 := by rw [← hW1]; exact below_new w _
    rw [hW1]
    have HBW := Lib.hid hbW
    clear hW1 hbW
    go_loopw [3, 4] (fun x y wr => OpRel W1 n x y wr) (fun _ y _ => n.attrs.length - (intOf y).toNat)
    case atStart => exact ⟨0, _, rfl, rfl, by omega, by rw [cat_list]; simp, Below.refl _ _⟩
    case round =>
      obtain ⟨k, o, rfl, rfl, HR⟩ := hrel
      obtain ⟨hk, his, hbr⟩ := HR
      have g2 : wr.cell? ⟨w.heap.size, 2, none⟩ = some (.slice A1 n.attrs.length c1) := (hbr.cell (p := ⟨w.heap.size, 2, none⟩) hz1).trans d2
      have hol : o.size ≤ 1000000 := by
        have h1 := atts_take_len n.attrs k
        have h2 : o.data.toList.length = o.size := by simp
        have h3 : n.name.data.toList.length = n.name.size := by simp
        rw [his, List.length_cons, List.length_append] at h2
        omega
      have HIS := Lib.hid his
      clear his
      by_cases hlt : k < n.attrs.length
      · obtain ⟨b, o2, c', hv, _, hSb, hcell⟩ := HAT.out.at_ (by omega)
        injection hv with hA _ hcc
        subst hA
        subst hcc
        obtain ⟨x, hx⟩ : ∃ x, n.attrs[k]? = some x := ⟨_, List.getElem?_eq_getElem hlt⟩
        have hb := HS.out b hSb
        have k0 : wr.cell? ⟨b, o2 + k * 2, none⟩ = some (.string x.1) := ((below_after HBW.out hbr).cell (p := ⟨b, o2 + k * 2, none⟩) hb).trans (hcell k x hx).1
        have k1 : wr.cell? ⟨b, o2 + k * 2 + 1, none⟩ = some (.string x.2) := ((below_after HBW.out hbr).cell (p := ⟨b, o2 + k * 2 + 1, none⟩) hb).trans (hcell k x hx).2
        have hxs := szA_at hx
        have hx1 : x.1.size ≤ 140000 := by omega
        have hx2 : x.2.size ≤ 140000 := by omega
        have hesc := fun w => escapeR_any x.2 true w hx2
        have hel := (escB_len true x.2.data.toList).2
        obtain ⟨u, hu, hul, huz⟩ := str_of (escB true x.2.data.toList)
        rw [hu] at hesc
        have hx2l : x.2.data.toList.length = x.2.size := by simp
        have huz2 : u.size ≤ 840000 := by omega
        have HESC := Lib.hid hesc
        have HUL := Lib.hid hul
        have HX := Lib.hid hx
        clear hcell hx hxs hesc hel hu hul huz hx2l
        go_wp2_with fail
        go_quiet ((go_at_call 44; exact quiet_here ((HESC.out _).mono fun _ _ ⟨he, hw⟩ => ⟨he, hw⟩)))
        go_wp2_with fail
        go_roundw
        case rel =>
          refine ⟨k + 1, _, rfl, by go_num, by omega, ?_, dN_below hbr _⟩
          rw [cat_list, cat_list, cat_list, cat_list, cat_list, HIS.out, HUL.out, List.take_add_one, HX.out, List.flatMap_append]
          simp [attT]
        case measure => simp [intOf]; omega
      · have hkl : k = n.attrs.length := by omega
        have HKL := Lib.hid hkl
        clear hkl
        go_wp2_with fail
        go_ret
        refine ⟨_, rfl, ?_, below_after HBW.out hbr⟩
        rw [cat_list, HIS.out, HKL.out, List.take_length]
        simp [openT]
  · rw [show openE n = [] from if_neg h1]
    have B1 : (n.kind != 1) = true := by simp [h1]
    go_enter Tryz.func46, Tryz.ntmps46
    go_wp2_with fail
    go_ret
    exact ⟨⟨#[]⟩, rfl, rfl, below_new w _⟩

/-- What is told of one's answer. -/
def OneEnd (w : World) (raw : Bool) (n : Nd) (e : Ending) (w' : World) : Prop := ∃ s : ByteArray, e = .returned (.string s) ∧ s.data.toList = txtN raw n ∧ Below w.heap.size w w'
def OneSaid (n : Nd) : Prop := ∀ (S : Nat → Prop) (raw : Bool) (va vk : Value) (w : World), AttrsAt S w n.attrs va → Tree S w n.kids vk → (∀ b, S b → b < w.heap.size) → szN n ≤ 140000 →
  Calls Tryz.prog 27 #[.agg #[.int .i64 n.kind, .string n.name, va, .string n.text, vk], .bool raw] w (OneEnd w raw n)

structure OnAt (W1 wr : World) (n : Nd) (rw : Bool) (k : Nat) (o : ByteArray) : Prop where
  le : k ≤ n.kids.length
  is : o.data.toList = openT n ++ txtL rw (n.kids.take k)
  bel : Below W1.heap.size W1 wr
def OnRel (W1 : World) (n : Nd) (rw : Bool) (x y : Value) (wr : World) : Prop := ∃ (k : Nat) (o : ByteArray), x = .string o ∧ y = .int .i64 k ∧ OnAt W1 wr n rw k o

theorem txt_take_len (rw : Bool) (l : List Nd) (k : Nat) : (txtL rw (l.take k)).length ≤ 7 * szL l := by
  have h1 := txt_len (l.take k) rw
  have h2 : szL l = szL (l.take k) + szL (l.drop k) := by rw [← szL_append, List.take_append_drop]
  omega

set_option maxHeartbeats 2000000 in
set_option maxRecDepth 100000 in
theorem one4_any (n : Nd) (ih : ∀ (k : Nat) (m : Nd), n.kids[k]? = some m → OneSaid m) : OneSaid n := by
  intro S raw va vk w hat hkt hS hsz
  have hne := szN_eq n
  have hns : n.name.size ≤ 140000 := by omega
  have hts : n.text.size ≤ 140000 := by omega
  have hks : szL n.kids ≤ 140000 := by omega
  have hkl := szL_len n.kids
  obtain ⟨A1, c1, rfl, hc1, _⟩ := id hat
  obtain ⟨A2, c2, rfl, hc2⟩ := hkt.shape
  have hopen := fun (W : World) (hb : Below w.heap.size w W) => openR4_any S n (.slice A1 n.attrs.length c1) (.slice A2 n.kids.length c2) W (hat.keep (Kept.belowB hb hS)) ⟨_, _, rfl⟩ (fun b h => Nat.lt_of_lt_of_le (hS b h) hb.size) hsz
  have HOPEN := Lib.hid hopen
  have HAT := Lib.hid hat
  have HKT := Lib.hid hkt
  have HS := Lib.hid hS
  have HIH := Lib.hid ih
  have HSZ := Lib.hid hsz
  clear hopen hat hkt hS ih hne hsz
  obtain ⟨res, hres⟩ : ∃ r, txtN raw n = r := ⟨_, rfl⟩
  have HRES := Lib.hid ((txtN_eq raw n).symm.trans hres)
  rw [show OneEnd w raw n = fun e w' => ∃ s : ByteArray, e = .returned (.string s) ∧ s.data.toList = res ∧ Below w.heap.size w w' by rw [← hres]; rfl]
  clear hres
  have HB1 := Lib.hid (below_new w (.cells #[.int .i64 n.kind, .string n.name, .slice A1 n.attrs.length c1, .string n.text, .slice A2 n.kids.length c2] 35))
  by_cases h3 : n.kind = 3
  · have B3 : (n.kind == 3) = true := by simp [h3]
    have HF := HRES.out
    rw [if_pos h3] at HF
    have HF2 := Lib.hid HF
    clear h3 HF
    go_enter Tryz.func27, Tryz.ntmps27
    go_wp2_with fail
    go_ret
    refine ⟨_, rfl, ?_, HB1.out⟩
    rw [← HF2.out, cat_list, cat_list]
    simp
  have B3 : (n.kind == 3) = false := by simp [h3]
  by_cases h2 : n.kind = 2
  · have B2 : (n.kind == 2) = true := by simp [h2]
    have HF := HRES.out
    rw [if_neg h3, if_pos h2] at HF
    have HF2 := Lib.hid HF
    have hesc := fun w => escapeR_any n.text false w hts
    obtain ⟨u, hu, hul, _⟩ := str_of (escB false n.text.data.toList)
    rw [hu] at hesc
    have HESC := Lib.hid hesc
    have HUL := Lib.hid hul
    clear h3 h2 HF hesc hu hul
    cases raw with
    | true =>
      go_enter Tryz.func27, Tryz.ntmps27
      go_wp2_with fail
      go_ret
      exact ⟨_, rfl, HF2.out, HB1.out⟩
    | false =>
      go_enter Tryz.func27, Tryz.ntmps27
      go_wp2_with fail
      refine (HESC.out _).mono ?_
      rintro e w1 ⟨rfl, rfl⟩
      go_wp2_with fail
      go_ret
      exact ⟨_, rfl, HUL.out.trans HF2.out, HB1.out⟩
  have B2 : (n.kind == 2) = false := by simp [h2]
  by_cases h1 : n.kind = 1
  · have B1 : (n.kind != 1) = false := by simp [h1]
    have HF := HRES.out
    rw [if_neg h3, if_neg h2, if_pos h1] at HF
    have HK1 := Lib.hid h1
    have hv := fun w => voidR_any n.name w
    have hr := fun w => rawR_any n.name w
    obtain ⟨v, hvv⟩ : ∃ v, voidB n.name.data.toList = v := ⟨_, rfl⟩
    obtain ⟨r, hrr⟩ : ∃ r, rawB n.name.data.toList = r := ⟨_, rfl⟩
    rw [hvv] at hv HF
    rw [hrr] at hr HF
    have HV := Lib.hid hv
    have HR := Lib.hid hr
    have HF2 := Lib.hid HF
    clear h3 h2 h1 HF hv hr hvv hrr
    go_enter Tryz.func27, Tryz.ntmps27
    go_wp2_with fail
    refine (HV.out _).mono ?_
    rintro e w1 ⟨rfl, rfl⟩
    cases v with
    | true =>
      go_wp2_with fail
      refine (HOPEN.out _ HB1.out).mono ?_
      rintro e w2 ⟨s, rfl, hs, hb2⟩
      have hB2 := below_after HB1.out hb2
      go_wp2_with fail
      go_ret
      exact ⟨s, rfl, by rw [hs, show openE n = openT n from if_pos HK1.out]; simpa using HF2.out, hB2⟩
    | false =>
      go_wp2_with fail
      refine (HR.out _).mono ?_
      rintro e w1 ⟨rfl, rfl⟩
      go_wp2_with fail
      refine (HOPEN.out _ HB1.out).mono ?_
      rintro e w2 ⟨s, rfl, hs, hb2⟩
      have hz1 : w.heap.size < (w.alloc (.cells #[.int .i64 n.kind, .string n.name, .slice A1 n.attrs.length c1, .string n.text, .slice A2 n.kids.length c2] 35)).heap.size := by simp
      have d1 : w2.cell? ⟨w.heap.size, 1, none⟩ = some (.string n.name) := (hb2.cell (p := ⟨w.heap.size, 1, none⟩) hz1).trans (by rw [World.cell?_alloc_mark]; rfl)
      have d4 : w2.cell? ⟨w.heap.size, 4, none⟩ = some (.slice A2 n.kids.length c2) := (hb2.cell (p := ⟨w.heap.size, 4, none⟩) hz1).trans (by rw [World.cell?_alloc_mark]; rfl)
      have hz2 : w.heap.size < w2.heap.size := Nat.lt_of_lt_of_le hz1 hb2.size
      have HB2 := Lib.hid (below_after HB1.out hb2)
      have HSS := Lib.hid (hs.trans (if_pos HK1.out))
      have hsl : s.size ≤ 1000000 := by
        have h5 := openT_len n
        have h6 : s.data.toList.length = s.size := by simp
        have h7 := szN_eq n
        rw [HSS.out] at h6
        have := HSZ.out
        omega
      clear hs hb2 hz1
      go_wp2_with fail
      go_loopw [7, 8] (fun x y wr => OnRel w2 n r x y wr) (fun _ y _ => n.kids.length - (intOf y).toNat)
      case atStart => exact ⟨0, s, rfl, rfl, by omega, by rw [HSS.out]; simp [txtL_nil], Below.refl _ _⟩
      case round =>
        obtain ⟨k, o, rfl, rfl, HRL⟩ := hrel
        obtain ⟨hk, his, hbr⟩ := HRL
        have e1 : wr.cell? ⟨w.heap.size, 1, none⟩ = some (.string n.name) := (hbr.cell (p := ⟨w.heap.size, 1, none⟩) hz2).trans d1
        have e4 : wr.cell? ⟨w.heap.size, 4, none⟩ = some (.slice A2 n.kids.length c2) := (hbr.cell (p := ⟨w.heap.size, 4, none⟩) hz2).trans d4
        have hbw := below_after HB2.out hbr
        have hol : o.size ≤ 2000000 := by
          have h5 := openT_len n
          have h6 : o.data.toList.length = o.size := by simp
          have h7 := szN_eq n
          have h8 := txt_take_len r n.kids k
          rw [his, List.length_append] at h6
          have := HSZ.out
          omega
        have HIS := Lib.hid his
        clear his
        by_cases hlt : k < n.kids.length
        · obtain ⟨b, o2, c', hv, _, hSb, hcell⟩ := HKT.out.open_ (by omega)
          injection hv with hA _ hcc
          subst hA
          subst hcc
          obtain ⟨m, hm⟩ : ∃ m, n.kids[k]? = some m := ⟨_, List.getElem?_eq_getElem hlt⟩
          obtain ⟨ma, mk, hmt⟩ := hcell k m hm
          have hb := HS.out b hSb
          obtain ⟨A3, c3, rfl, _, _⟩ := id hmt.at_
          obtain ⟨A4, c4, rfl, _⟩ := hmt.kids.shape
          have q0 : wr.cell? ⟨b, o2 + k * 5, none⟩ = some (.int .i64 m.kind) := (hbw.cell (p := ⟨b, o2 + k * 5, none⟩) hb).trans hmt.c0
          have q1 : wr.cell? ⟨b, o2 + k * 5 + 1, none⟩ = some (.string m.name) := (hbw.cell (p := ⟨b, o2 + k * 5 + 1, none⟩) hb).trans hmt.c1
          have q2 : wr.cell? ⟨b, o2 + k * 5 + 2, none⟩ = some (.slice A3 m.attrs.length c3) := (hbw.cell (p := ⟨b, o2 + k * 5 + 2, none⟩) hb).trans hmt.c2
          have q3 : wr.cell? ⟨b, o2 + k * 5 + 3, none⟩ = some (.string m.text) := (hbw.cell (p := ⟨b, o2 + k * 5 + 3, none⟩) hb).trans hmt.c3
          have q4 : wr.cell? ⟨b, o2 + k * 5 + 4, none⟩ = some (.slice A4 m.kids.length c4) := (hbw.cell (p := ⟨b, o2 + k * 5 + 4, none⟩) hb).trans hmt.c4
          have hsm : szN m ≤ 140000 := by have := szL_at hm; omega
          have HON := Lib.hid (HIH.out k m hm S r (.slice A3 m.attrs.length c3) (.slice A4 m.kids.length c4) wr (hmt.at_.keep (Kept.belowB hbw HS.out)) (hmt.kids.keep (Kept.belowB hbw HS.out)) (fun b h => Nat.lt_of_lt_of_le (HS.out b h) hbw.size) hsm)
          have HM := Lib.hid hm
          have hml : (txtN r m).length ≤ 980000 := by
            have h5 := txt_len [m] r
            rw [txtL_cons, txtL_nil, List.append_nil, szL_cons, szL_nil] at h5
            omega
          clear hcell hm hmt
          go_wp2_with fail
          refine HON.out.mono ?_
          rintro e w3 ⟨u, rfl, hu, hb3⟩
          have hul : u.size ≤ 980000 := by
            have : u.data.toList.length = u.size := by simp
            rw [hu] at this
            omega
          have HU := Lib.hid hu
          have hB3 := below_after hbr hb3
          clear hu hml
          go_wp2_with fail
          go_roundw
          case rel =>
            refine ⟨k + 1, _, rfl, by go_num, by omega, ?_, hB3⟩
            rw [cat_list, HIS.out, HU.out, txtL_take HM.out, List.append_assoc]
          case measure => simp [intOf]; omega
        · have hkk : k = n.kids.length := by omega
          have HKK := Lib.hid hkk
          clear hkk
          go_wp2_with fail
          go_ret
          refine ⟨_, rfl, ?_, hbw⟩
          have hf := HF2.out
          rw [if_neg (by decide)] at hf
          rw [← hf, cat_list, cat_list, cat_list, HIS.out, HKK.out, List.take_length]
          simp [closeT]
  · have B1 : (n.kind != 1) = true := by simp [h1]
    have HF := HRES.out
    rw [if_neg h3, if_neg h2, if_neg h1] at HF
    have HF2 := Lib.hid HF
    clear h3 h2 h1 HF
    go_enter Tryz.func27, Tryz.ntmps27
    go_wp2_with fail
    go_ret
    exact ⟨⟨#[]⟩, rfl, HF2.out, HB1.out⟩

end Go.Proofs.YthmnnalamaponaaGreat

/- Part TxtS. -/
namespace Go.Proofs.YthmnnalamaponaaGreat
open Go.RowKit
set_option linter.unusedVariables false

theorem one4_all (n : Nd) : OneSaid n := by
  have key : ∀ l : List Nd, ∀ (k : Nat) (m : Nd), l[k]? = some m → OneSaid m := by
    intro l
    induction l using nd_ind with
    | h l ih =>
      intro k m hm
      exact one4_any m (ih k m hm)
  exact key [n] 0 n rfl

structure TtAt (w wr : World) (l : List Nd) (k : Nat) (o : ByteArray) : Prop where
  le : k ≤ l.length
  is : o.data.toList = txtL false (l.take k)
  bel : Below w.heap.size w wr
def TtRel (w : World) (l : List Nd) (x y : Value) (wr : World) : Prop := ∃ (k : Nat) (o : ByteArray), x = .string o ∧ y = .int .i64 k ∧ TtAt w wr l k o

set_option maxHeartbeats 2000000 in
set_option maxRecDepth 100000 in
theorem textR4_any (S : Nat → Prop) (l : List Nd) (v : Value) (w : World) (hT : Tree S w l v) (hS : ∀ b, S b → b < w.heap.size) (hsz : szL l ≤ 140000) :
    Calls Tryz.prog 17 #[v] w fun e w' => ∃ s : ByteArray, e = .returned (.string s) ∧ s.data.toList = txtL false l ∧ Below w.heap.size w w' := by
  have hlen := szL_len l
  obtain ⟨A, c, rfl, hc⟩ := hT.shape
  have HT := Lib.hid hT
  clear hT
  go_enter Tryz.func17, Tryz.ntmps17
  go_wp2_with fail
  go_loopw [3, 4] (fun x y wr => TtRel w l x y wr) (fun _ y _ => l.length - (intOf y).toNat)
  case atStart => exact ⟨0, ⟨#[]⟩, rfl, rfl, by omega, by simp [txtL_nil], Below.refl _ _⟩
  case round =>
    obtain ⟨k, o, rfl, rfl, HR⟩ := hrel
    obtain ⟨hk, his, hbr⟩ := HR
    have hol : o.size ≤ 2000000 := by
      have h6 : o.data.toList.length = o.size := by simp
      have h8 := txt_take_len false l k
      rw [his] at h6
      omega
    have HIS := Lib.hid his
    clear his
    by_cases hlt : k < l.length
    · obtain ⟨b, o2, c', hv, _, hSb, hcell⟩ := HT.out.open_ (by omega)
      injection hv with hA _ hcc
      subst hA
      subst hcc
      obtain ⟨m, hm⟩ : ∃ m, l[k]? = some m := ⟨_, List.getElem?_eq_getElem hlt⟩
      obtain ⟨ma, mk, hmt⟩ := hcell k m hm
      have hb := hS b hSb
      obtain ⟨A3, c3, rfl, _, _⟩ := id hmt.at_
      obtain ⟨A4, c4, rfl, _⟩ := hmt.kids.shape
      have q0 : wr.cell? ⟨b, o2 + k * 5, none⟩ = some (.int .i64 m.kind) := (hbr.cell (p := ⟨b, o2 + k * 5, none⟩) hb).trans hmt.c0
      have q1 : wr.cell? ⟨b, o2 + k * 5 + 1, none⟩ = some (.string m.name) := (hbr.cell (p := ⟨b, o2 + k * 5 + 1, none⟩) hb).trans hmt.c1
      have q2 : wr.cell? ⟨b, o2 + k * 5 + 2, none⟩ = some (.slice A3 m.attrs.length c3) := (hbr.cell (p := ⟨b, o2 + k * 5 + 2, none⟩) hb).trans hmt.c2
      have q3 : wr.cell? ⟨b, o2 + k * 5 + 3, none⟩ = some (.string m.text) := (hbr.cell (p := ⟨b, o2 + k * 5 + 3, none⟩) hb).trans hmt.c3
      have q4 : wr.cell? ⟨b, o2 + k * 5 + 4, none⟩ = some (.slice A4 m.kids.length c4) := (hbr.cell (p := ⟨b, o2 + k * 5 + 4, none⟩) hb).trans hmt.c4
      have hsm : szN m ≤ 140000 := by have := szL_at hm; omega
      have HON := Lib.hid (one4_all m S false (.slice A3 m.attrs.length c3) (.slice A4 m.kids.length c4) wr (hmt.at_.keep (Kept.belowB hbr hS)) (hmt.kids.keep (Kept.belowB hbr hS)) (fun b h => Nat.lt_of_lt_of_le (hS b h) hbr.size) hsm)
      have HM := Lib.hid hm
      have hml : (txtN false m).length ≤ 980000 := by
        have h5 := txt_len [m] false
        rw [txtL_cons, txtL_nil, List.append_nil, szL_cons, szL_nil] at h5
        omega
      clear hcell hm hmt
      go_wp2_with fail
      refine HON.out.mono ?_
      rintro e w3 ⟨u, rfl, hu, hb3⟩
      have hul : u.size ≤ 980000 := by
        have : u.data.toList.length = u.size := by simp
        rw [hu] at this
        omega
      have HU := Lib.hid hu
      have hB3 := below_after hbr hb3
      clear hu hml
      go_wp2_with fail
      go_roundw
      case rel =>
        refine ⟨k + 1, _, rfl, by go_num, by omega, ?_, hB3⟩
        rw [cat_list, HIS.out, HU.out, txtL_take HM.out]
      case measure => simp [intOf]; omega
    · have hkk : k = l.length := by omega
      have HKK := Lib.hid hkk
      clear hkk
      go_wp2_with fail
      go_ret
      refine ⟨_, rfl, ?_, hbr⟩
      rw [HIS.out, HKK.out, List.take_length]

end Go.Proofs.YthmnnalamaponaaGreat
