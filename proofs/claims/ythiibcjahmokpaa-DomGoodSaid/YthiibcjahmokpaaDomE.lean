/- dom.Merge, of plain nodes: its walk. -/
import Derived.Test.YthiibcjahmokpaaDomA
import Derived.Test.YthiibcjahmokpaaDomT
namespace Go.Proofs.Ythiibcjahmokpaa
open Go.RowKit
set_option linter.unusedVariables false

theorem add_five (b o n : Nat) : (⟨b, o, none⟩ : Addr).add n = ⟨b, o + n, none⟩ := by
  unfold Addr.add
  split
  · rename_i h; subst h; rfl
  · rfl

/-- 'l[k:]'. -/
theorem cut_tail (W : World) (A : Option Addr) (n c k : Nat) (hk : k ≤ n) :
    (Instr.slice 23 (.slice A n c) (some (.int .i64 (k : Int))) none none).run Try.prog W = .ok (.slice (if c = k then A else A.map (·.add (k * 5))) (n - k) (c - k)) W := by
  have he : Try.prog.elem 23 = 28 := by kernel_rfl
  rw [run_slice_l W 23 A n c (by rw [he]; exact Try.underlying23) .i64 (k : Int) (by omega) (by omega)]
  rw [he, Try.sizeOf28]
  simp only [Result.andThen, sliced, Int.toNat_natCast]

theorem ncells_drop (R : List Rn) (k : Nat) : ncells (R.drop k) = (ncells R).drop (k * 5) := by
  rcases Nat.lt_or_ge k R.length with h | h
  · have h1 : ncells R = ncells (R.take k) ++ ncells (R.drop k) := by rw [← ncells_append, List.take_append_drop]
    rw [h1, List.drop_left' (by rw [ncells_length, List.length_take]; omega)]
  · rw [List.drop_of_length_le h, List.drop_of_length_le (by rw [ncells_length]; omega)]
    rfl

theorem Tree.drop {S : Nat → Prop} {w : World} {l : List Nd} {A : Option Addr} {n c : Nat} (h : Tree S w l (.slice A n c)) (k : Nat) (hk : k ≤ l.length) :
    Tree S w (l.drop k) (.slice (if c = k then A else A.map (·.add (k * 5))) (n - k) (c - k)) := by
  cases h with
  | mk R l A c hl hc hcell hat hkids =>
    subst hl
    have hk' : k ≤ R.length := by simpa using hk
    have hlen : ((R.map Rn.n).drop k).length = (R.map Rn.n).length - k := by rw [List.length_drop]
    rw [← hlen]
    rw [List.length_map] at hc
    refine .mk (R.drop k) _ _ _ (by rw [List.map_drop]) (by rw [hlen, List.length_map]; omega) ?_ (fun r hr => hat r (List.mem_of_mem_drop hr)) (fun r hr => hkids r (List.mem_of_mem_drop hr))
    intro hx
    rw [ncells_length, List.length_drop] at hx
    obtain ⟨b, o, rfl, hS, hcl⟩ := hcell (by rw [ncells_length]; omega)
    rw [if_neg (by omega)]
    refine ⟨b, o + k * 5, by simp [add_five], hS, fun j u hu => ?_⟩
    rw [ncells_drop, List.getElem?_drop] at hu
    rw [Nat.add_assoc]
    exact hcl _ u hu

structure MgAt (w wr : World) (l : List Nd) (k : Nat) (v : Value) (out : List Nd) : Prop where
  le : k ≤ l.length
  own : OwnC wr w.heap.size w.heap.size out v
  ok : DomOK out
  nx : lastText out = true → ∀ n, l[k]? = some n → n.kind ≠ 2
  sz : szL out ≤ szL (l.take k)
  bel : Below w.heap.size w wr
def MgRel (w : World) (l : List Nd) (x y : Value) (wr : World) : Prop := ∃ (k : Nat) (out : List Nd), y = .int .i64 k ∧ MgAt w wr l k x out

theorem szL_cut (l : List Nd) (k : Nat) : szL (l.take k) ≤ szL l := by
  have : szL l = szL (l.take k) + szL (l.drop k) := by rw [← szL_append, List.take_append_drop]
  omega
theorem szL_take1 {l : List Nd} {k : Nat} {n : Nd} (h : l[k]? = some n) : szL (l.take (k + 1)) = szL (l.take k) + szN n := by
  rw [List.take_add_one, h, szL_append]
  simp [szL_cons, szL_nil]
theorem szL_more (l : List Nd) (a b : Nat) : szL (l.take (a + b)) = szL (l.take a) + szL ((l.drop a).take b) := by rw [List.take_add, szL_append]
theorem szN_pn (k : Int) (t : ByteArray) : szN (pn k t) = 10 + t.size := by
  rw [szN_eq]
  show 10 + 0 + t.size + 0 + szL [] = 10 + t.size
  rw [szL_nil]
  omega
theorem app_list (a b : ByteArray) : (a ++ b).data.toList = a.data.toList ++ b.data.toList := by simp

/-- A plain node's cells, at its place. -/
theorem plain_at {S : Nat → Prop} {w : World} {l : List Nd} {A : Option Addr} {c k : Nat} {n : Nd} (hT : Tree S w l (.slice A l.length c)) (hn : l[k]? = some n) (hp : PN n) :
    ∃ b o A1 c1 A2 c2, A = some ⟨b, o, none⟩ ∧ S b ∧ w.cell? ⟨b, o + k * 5, none⟩ = some (.int .i64 n.kind) ∧ w.cell? ⟨b, o + k * 5 + 1, none⟩ = some (.string ⟨#[]⟩) ∧
      w.cell? ⟨b, o + k * 5 + 2, none⟩ = some (.slice A1 0 c1) ∧ w.cell? ⟨b, o + k * 5 + 3, none⟩ = some (.string n.text) ∧ w.cell? ⟨b, o + k * 5 + 4, none⟩ = some (.slice A2 0 c2) := by
  have hlt := (List.getElem?_eq_some_iff.1 hn).1
  obtain ⟨b, o, c', hv, _, hS, hcell⟩ := hT.open_ (by omega)
  injection hv with hA _ _
  obtain ⟨va, vk, hat⟩ := hcell k n hn
  obtain ⟨A1, c1, rfl, _⟩ := id hat.at_
  obtain ⟨A2, c2, rfl, _⟩ := hat.kids.shape
  have h1 := hat.c1
  have h2 := hat.c2
  have h4 := hat.c4
  rw [hp.name] at h1
  rw [hp.attrs] at h2
  rw [hp.kids] at h4
  exact ⟨b, o, A1, c1, A2, c2, hA, hS, hat.c0, h1, h2, hat.c3, h4⟩

set_option maxHeartbeats 2000000 in
set_option maxRecDepth 100000 in
theorem merge_dom (l : List Nd) (v : Value) (w : World) (hT : Tree (· < w.heap.size) w l v) (hP : ∀ n ∈ l, PN n) (hsz : szL l ≤ 100000) :
    Calls Try.prog 6 #[v] w fun e w' => ∃ (out : List Nd) (v' : Value), e = .returned v' ∧ OwnC w' w.heap.size w.heap.size out v' ∧ DomOK out ∧ szL out ≤ szL l ∧ Below w.heap.size w w' := by
  have hlen := szL_len l
  obtain ⟨A, c, rfl, hc⟩ := hT.shape
  have HT := Lib.hid hT
  clear hT
  go_enter Try.func6, Try.ntmps6
  go_wp2_with fail
  go_loopw [3, 4] (fun x y wr => MgRel w l x y wr) (fun _ y _ => l.length - (intOf y).toNat)
  case atStart => exact ⟨0, [], rfl, by omega, OwnC.nil _ _ _, DomOK.nil, fun h => by simp [lastText] at h, by simp [szL], Below.refl _ _⟩
  case round =>
    obtain ⟨k, out, rfl, HR⟩ := hrel
    have hk := HR.le
    have hbel := HR.bel
    have hol := szL_len out
    have hos : szL out ≤ 100000 := Nat.le_trans HR.sz (Nat.le_trans (szL_cut l k) hsz)
    by_cases hlt : k < l.length
    · obtain ⟨n, hn⟩ : ∃ n, l[k]? = some n := ⟨_, List.getElem?_eq_getElem hlt⟩
      have hp := hP n (List.mem_of_getElem? hn)
      obtain ⟨b, o, A1, c1, A2, c2, hA, hS, h0, h1, h2, h3, h4⟩ := plain_at HT.out hn hp
      subst hA
      obtain ⟨A', c'', hv', hc''⟩ := OwnT.shape HR.own
      subst hv'
      have q0 := (hbel.cell (p := ⟨b, o + k * 5, none⟩) hS).trans h0
      have q1 := (hbel.cell (p := ⟨b, o + k * 5 + 1, none⟩) hS).trans h1
      have q2 := (hbel.cell (p := ⟨b, o + k * 5 + 2, none⟩) hS).trans h2
      have q3 := (hbel.cell (p := ⟨b, o + k * 5 + 3, none⟩) hS).trans h3
      have q4 := (hbel.cell (p := ⟨b, o + k * 5 + 4, none⟩) hS).trans h4
      have hns := szL_at hn
      rw [szN_eq] at hns
      have HN := Lib.hid hn
      have HOWN := Lib.hid (fun W (hb : Below wr.heap.size wr W) ob => OwnC.later (OwnC.later HR.own hb) (below_new W ob))
      obtain ⟨kd, hkd⟩ : ∃ kd, n.kind = kd := ⟨_, rfl⟩
      obtain ⟨tx, htx⟩ : ∃ tx, n.text = tx := ⟨_, rfl⟩
      rw [hkd] at q0
      rw [htx] at q3 hns
      have hts : tx.size ≤ 100000 := by omega
      have HNM := Lib.hid (And.intro hkd htx)
      clear h0 h1 h2 h3 h4 hkd htx hns hn
      rcases HNM.out.1 ▸ hp.kind with h2 | h2
      · subst h2
        obtain ⟨q, hq⟩ : ∃ q, tx.toList.isEmpty = q := ⟨_, rfl⟩
        cases q with
        | true =>
          have HR' := Lib.hid HR
          have HP := Lib.hid hp
          clear hp HR
          go_wp2_with fail
          go_roundw
          case rel =>
            refine ⟨k + 1, out, by go_num, by omega, OwnC.later HR'.out.own (below_new wr _), HR'.out.ok, fun h => absurd HNM.out.1 (HR'.out.nx h n HN.out), ?_, hbel.alloc hbel.size _⟩
            have := szL_take1 HN.out
            have := HR'.out.sz
            omega
          case measure => simp [intOf]; omega
        | false =>
          have hne : tx.data.toList ≠ [] := fun e => by rw [Lib.toList_data, e] at hq; cases hq
          have hdr := fun W (hb : Below wr.heap.size wr W) => (HT.out.stay (hbel.trans (hb.mono hbel.size))).drop (k + 1) (by omega)
          have hsl0 := fun W => cut_tail W (some ⟨b, o, none⟩) l.length c (k + 1) (by omega)
          obtain ⟨AD, hAD⟩ : ∃ AD, (if c = k + 1 then (some ⟨b, o, none⟩ : Option Addr) else (some ⟨b, o, none⟩ : Option Addr).map (·.add ((k + 1) * 5))) = AD := ⟨_, rfl⟩
          obtain ⟨nD, hnD⟩ : ∃ nD, l.length - (k + 1) = nD := ⟨_, rfl⟩
          obtain ⟨cD, hcD⟩ : ∃ cD, c - (k + 1) = cD := ⟨_, rfl⟩
          rw [hAD, hnD, hcD] at hsl0 hdr
          have hsl : ∀ W, (Instr.slice 23 (.slice (some ⟨b, o, none⟩) l.length c) (some (.int .i64 ((k : Int) + 1))) none none).run Try.prog W = .ok (.slice AD nD cD) W := fun W => by
            have := hsl0 W
            rwa [show ((k + 1 : Nat) : Int) = (k : Int) + 1 by omega] at this
          have hszd : szL (l.drop (k + 1)) ≤ 100000 := by
            have : szL l = szL (l.take (k + 1)) + szL (l.drop (k + 1)) := by rw [← szL_append, List.take_append_drop]
            omega
          have hTX := Lib.hid (fun W (hb : Below wr.heap.size wr W) => texts_any (· < w.heap.size) (l.drop (k + 1)) _ W (hdr W hb) (fun b hb' => Nat.lt_of_lt_of_le hb' (Nat.le_trans hbel.size hb.size)) hszd)
          have hnDl : nD ≤ 100000 := by omega
          have HND := Lib.hid hnD
          have HNE := Lib.hid hne
          have HP := Lib.hid hp
          have HPL := Lib.hid hP
          clear hsl0 hdr hAD hcD hnD hne hszd
          go_wp2_with fail
          refine (hTX.out _ (below_new wr _)).mono ?_
          rintro e w5 ⟨m, s, rfl, hm, hall, hnx, hs, hb5⟩
          rw [List.length_drop, HND.out] at hm
          have hssz : s.size + 10 * m ≤ szL ((l.drop (k + 1)).take m) := by
            have h1 := catT_len ((l.drop (k + 1)).take m)
            rw [← hs, List.length_take, List.length_drop, HND.out] at h1
            have : s.data.toList.length = s.size := by simp
            rw [Nat.min_eq_left hm] at h1
            omega
          have hssz2 := szL_more l (k + 1) m
          have hssz3 := szL_cut l (k + 1 + m)
          have hssl : s.size ≤ 100000 := by omega
          have hm2 : m ≤ 100000 := by omega
          have hcells : ∀ (j : Nat) (u : Value), #[Value.int .i64 2, .string ⟨#[]⟩, .slice A1 0 c1, .string tx, .slice A2 0 c2][j]? = some u → w5.cell? ⟨wr.heap.size, j, none⟩ = some u := by
            intro j u hj
            rw [hb5.cell (p := ⟨wr.heap.size, j, none⟩) (by simp), World.cell?_alloc_mark]
            exact hj
          have g3 := hcells 3 _ rfl
          have f3 : w5.frozen? ⟨wr.heap.size, 3, none⟩ = false := by
            have hbk := hb5.block wr.heap.size (by simp)
            have hbk2 : w5.frozen? ⟨wr.heap.size, 3, none⟩ = (wr.alloc (.cells #[.int .i64 2, .string ⟨#[]⟩, .slice A1 0 c1, .string tx, .slice A2 0 c2] 28)).frozen? ⟨wr.heap.size, 3, none⟩ := by
              unfold World.frozen?
              rw [hbk]
            rw [hbk2]
            exact World.frozen?_alloc_at _ _ _ _ rfl
          have e3 : (w5.setCell ⟨wr.heap.size, 3, none⟩ (.string (tx ++ s))).cell? ⟨wr.heap.size, 3, none⟩ = some (.string (tx ++ s)) := World.cell?_setCell_same' _ _ _ (by rw [g3]; rfl)
          have eo : ∀ (j : Nat) (u : Value), j ≠ 3 → #[Value.int .i64 2, .string ⟨#[]⟩, .slice A1 0 c1, .string tx, .slice A2 0 c2][j]? = some u → (w5.setCell ⟨wr.heap.size, 3, none⟩ (.string (tx ++ s))).cell? ⟨wr.heap.size, j, none⟩ = some u := by
            intro j u hj3 hj
            rw [World.cell?_setCell_other _ _ _ _ (fun e => hj3 (by injection e with _ e _; exact e.symm))]
            exact hcells j u hj
          have e0 := eo 0 _ (by omega) rfl
          have e1 := eo 1 _ (by omega) rfl
          have e2 := eo 2 _ (by omega) rfl
          have e4 := eo 4 _ (by omega) rfl
          have hB5 : Below wr.heap.size wr w5 := below_after (below_new wr _) hb5
          have hB6 : Below wr.heap.size wr (w5.setCell ⟨wr.heap.size, 3, none⟩ (.string (tx ++ s))) := hB5.setCell (p := ⟨wr.heap.size, 3, none⟩) (Nat.le_refl _) _
          have HB6 := Lib.hid hB6
          have HF := Lib.hid (And.intro hall (And.intro hnx (And.intro hs (And.intro hssz hssz2))))
          clear hcells eo hall hnx hs hssz hssz2 hssz3 hb5 hB5 hB6 hP hp
          go_wp2_with fail
          refine (one_plain 2 ⟨#[]⟩ (tx ++ s) A1 A2 c1 c2 _).mono ?_
          rintro e w7 ⟨rfl, hb7⟩
          have hB7 : Below wr.heap.size wr w7 := below_after HB6.out hb7
          have hwr : w.heap.size ≤ w7.heap.size + 1 := by have := hbel.size; have := hB7.size; omega
          go_wp2_with (at_builtin; refine wpList_append_node rfl _ _ rfl w.heap.size w.heap.size out _ rfl (HOWN.out w7 hB7 _) ⟨pn 2 (tx ++ s), .slice none 0 0, .slice none 0 0⟩ ⟨w7.heap.size, 0, none⟩ 1 rfl (new_five _ _ ⟨pn 2 (tx ++ s), .slice none 0 0, .slice none 0 0⟩) (AttrsAt.nil _ _) (Tree.nil _ _) (by omega) (by simpa using hwr) ?_; intro v' w8 hown' hgrow)
          have hB8 : Below w.heap.size w w8 := ((hbel.trans (hB7.mono hbel.size)).alloc (by have := hbel.size; have := hB7.size; omega) _).grown hgrow (by simpa using hwr) (fun g hg => (OwnT.lt (HOWN.out w7 hB7 (.cells #[] 0)) g hg).1)
          obtain ⟨hall, hnx, hs, hssz, hssz2⟩ := HF.out
          clear hgrow
          go_roundw
          case rel =>
            have hlast : lastText out = false := by
              cases h : lastText out with
              | false => rfl
              | true => exact absurd HNM.out.1 (HR.nx h n HN.out)
            have hokS : okT s.data.toList := by
              rw [hs]
              exact catT_ok _ fun x hx => (HPL.out x (List.mem_of_mem_drop (List.mem_of_mem_take hx))).ok
            have htl : (tx ++ s).data.toList = tx.data.toList ++ s.data.toList := app_list tx s
            refine ⟨k + 1 + m, out ++ [pn 2 (tx ++ s)], by push_cast; rfl, by have := HND.out; omega, hown', HR.ok.snoc (PN.mk' (.inl rfl) ?_) (fun _ => ⟨fun h => HNE.out ?_, hlast⟩), fun _ x hx => ?_, ?_, hB8⟩
            · rw [htl]
              exact okT_append (HNM.out.2 ▸ HP.out.ok) hokS
            · have h' : tx.data.toList ++ s.data.toList = [] := htl.symm.trans h
              exact (List.append_eq_nil_iff.1 h').1
            · exact hnx x (by rw [List.getElem?_drop]; exact hx)
            · have h1 := szL_take1 HN.out
              have h2 := HR.sz
              have h3 := szN_eq n
              rw [HNM.out.2] at h3
              rw [szL_append, szL_cons, szL_nil, szN_pn, ByteArray.size_append]
              omega
          case measure => simp [intOf]; omega
      · subst h2
        have HP := Lib.hid hp
        have HR' := Lib.hid HR
        clear hp HR
        go_wp2_with fail
        refine (one_plain 3 ⟨#[]⟩ tx A1 A2 c1 c2 _).mono ?_
        rintro e w5 ⟨rfl, hb5⟩
        have hB5 : Below wr.heap.size wr w5 := below_after (below_new wr _) hb5
        have hwr : w.heap.size ≤ w5.heap.size + 1 := by have := hbel.size; have := hB5.size; omega
        go_wp2_with (at_builtin; refine wpList_append_node rfl _ _ rfl w.heap.size w.heap.size out _ rfl (HOWN.out w5 hB5 _) ⟨pn 3 tx, .slice none 0 0, .slice none 0 0⟩ ⟨w5.heap.size, 0, none⟩ 1 rfl (new_five _ _ ⟨pn 3 tx, .slice none 0 0, .slice none 0 0⟩) (AttrsAt.nil _ _) (Tree.nil _ _) (by omega) (by simpa using hwr) ?_; intro v' w6 hown' hgrow)
        have hB6 : Below w.heap.size w w6 := ((hbel.trans (hB5.mono hbel.size)).alloc (by have := hbel.size; have := hB5.size; omega) _).grown hgrow (by simpa using hwr) (fun g hg => (OwnT.lt (HOWN.out w5 hB5 (.cells #[] 0)) g hg).1)
        clear hgrow
        go_roundw
        case rel =>
          refine ⟨k + 1, out ++ [pn 3 tx], by go_num, by omega, hown', HR'.out.ok.snoc (PN.mk' (.inr rfl) (HNM.out.2 ▸ HP.out.ok)) (fun h => absurd (show (3 : Int) = 2 from h) (by decide)), (fun h => (by rw [lastText_snoc] at h; cases h)), ?_, hB6⟩
          have h1 := szL_take1 HN.out
          have h2 := HR'.out.sz
          have h3 := szN_eq n
          rw [HNM.out.2] at h3
          rw [szL_append, szL_cons, szL_nil, szN_pn]
          omega
        case measure => simp [intOf]; omega
    · have hkl : k = l.length := by omega
      subst hkl
      have HR' := Lib.hid HR
      clear HR
      go_wp2_with fail
      go_ret
      have := HR'.out.sz
      rw [List.take_length] at this
      exact ⟨out, _, rfl, HR'.out.own, HR'.out.ok, this, hbel⟩

end Go.Proofs.Ythiibcjahmokpaa
