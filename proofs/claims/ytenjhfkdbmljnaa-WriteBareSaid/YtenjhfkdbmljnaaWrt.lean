/- write.Text, Open, Close, Length, Plain: what the laws of stage 4 want of them. -/
import Derived.Test.YtenjhfkdbmljnaaWrtN
import Derived.Test.YtenjhfkdbmljnaaWrtP
import Derived.Test.YtenjhfkdbmljnaaSink
namespace Go.Proofs.Ytenjhfkdbmljnaa
open Go.RowKit
set_option linter.unusedVariables false

set_option maxHeartbeats 1000000 in
set_option maxRecDepth 100000 in
theorem text1_any (S : Nat → Prop) (l : List Nd) (v : Value) (w : World) (hT : Tree S w l v) (hS : ∀ b, S b → b < w.heap.size) (hsz : szL l ≤ 140000) (p : Nat) (hp : p < w.heap.size) (hbox : w.heap[p]? = some (.cells #[v] 22 (0, 0)))
    (W1 : World) (hI : BuiltIn w.heap.size w [] W1) :
    Calls Try.prog 21 #[.func (.func 37) #[] #[.pointer (some ⟨w.heap.size, 0, none⟩)], .pointer (some ⟨p, 0, none⟩)] W1 (Told (BuiltIn w.heap.size w) w.heap.size W1 (txtL false l)) := by
  have hlen := txt_len l false
  have hbx := (hI.2.block p hp).trans hbox
  have hc := cell_at hbx 0
  have H := Lib.hid (nodes_any l (out_writes w.heap.size w (Nat.le_refl _)) S hS false v [] W1 hT hI hsz (by simp only [List.length_nil]; omega))
  obtain ⟨A, c, rfl, _⟩ := hT.shape
  clear hbx hbox hT
  go_enter Try.func21, Try.ntmps21
  go_wp2_with fail
  refine H.out.mono ?_
  rintro e W2 ⟨rfl, h2, k2⟩
  go_wp2_with fail
  go_end0
  exact ⟨rfl, h2, k2⟩

set_option maxHeartbeats 1000000 in
set_option maxRecDepth 100000 in
theorem text_any (S : Nat → Prop) (l : List Nd) (v : Value) (w : World) (hT : Tree S w l v) (hS : ∀ b, S b → b < w.heap.size) (hsz : szL l ≤ 140000) :
    Calls Try.prog 8 #[v] w fun e w' => ∃ s : ByteArray, e = .returned (.string s) ∧ s.data.toList = txtL false l ∧ Below w.heap.size w w' := by
  have hlen := txt_len l false
  have hb0 := below_new w (.cells #[v] 22)
  have hbx := box_here w #[v] 22
  have hT0 := hT.keep (Kept.belowB hb0 hS)
  obtain ⟨W0, hW0⟩ : ∃ W0, w.alloc (.cells #[v] 22) = W0 := ⟨_, rfl⟩
  have hp : w.heap.size < W0.heap.size := by rw [← hW0]; simp
  rw [hW0] at hb0 hbx hT0
  have H := Lib.hid (joined_any 21 w.heap.size (txtL false l) W0 (fun args w => enters_of Try.func21 (by kernel_rfl) rfl args w) (by omega)
    (fun W1 h1 _ => text1_any S l v W0 hT0 (fun b h => Nat.lt_trans (hS b h) hp) hsz w.heap.size hp hbx W1 h1))
  obtain ⟨A, c, rfl, _⟩ := hT.shape
  clear hT hT0 hbx
  go_enter Try.func8, Try.ntmps8
  go_wp2_with fail
  refine H.out.mono ?_
  rintro e W2 ⟨rfl, h2⟩
  go_wp2_with fail
  go_ret
  exact ⟨_, rfl, rfl, hb0.trans (h2.mono (Nat.le_of_lt hp))⟩

set_option maxHeartbeats 1000000 in
set_option maxRecDepth 100000 in
theorem plain1_any (S : Nat → Prop) (l : List Nd) (v : Value) (w : World) (hT : Tree S w l v) (hS : ∀ b, S b → b < w.heap.size) (hsz : szL l ≤ 140000) (p : Nat) (hp : p < w.heap.size) (hbox : w.heap[p]? = some (.cells #[v] 22 (0, 0)))
    (W1 : World) (hI : BuiltIn w.heap.size w [] W1) :
    Calls Try.prog 28 #[.func (.func 37) #[] #[.pointer (some ⟨w.heap.size, 0, none⟩)], .pointer (some ⟨p, 0, none⟩)] W1 (Told (BuiltIn w.heap.size w) w.heap.size W1 (plainL l)) := by
  have hlen := plain_len l
  have hbx := (hI.2.block p hp).trans hbox
  have hc := cell_at hbx 0
  have H := Lib.hid (plainW_any l (out_writes w.heap.size w (Nat.le_refl _)) S hS v [] W1 hT hI hsz (by simp only [List.length_nil]; omega))
  obtain ⟨A, c, rfl, _⟩ := hT.shape
  clear hbx hbox hT
  go_enter Try.func28, Try.ntmps28
  go_wp2_with fail
  refine H.out.mono ?_
  rintro e W2 ⟨rfl, h2, k2⟩
  go_wp2_with fail
  go_end0
  exact ⟨rfl, h2, k2⟩

set_option maxHeartbeats 1000000 in
set_option maxRecDepth 100000 in
theorem plain_any (S : Nat → Prop) (l : List Nd) (v : Value) (w : World) (hT : Tree S w l v) (hS : ∀ b, S b → b < w.heap.size) (hsz : szL l ≤ 140000) :
    Calls Try.prog 15 #[v] w fun e w' => ∃ s : ByteArray, e = .returned (.string s) ∧ s.data.toList = plainL l ∧ Below w.heap.size w w' := by
  have hlen := plain_len l
  have hb0 := below_new w (.cells #[v] 22)
  have hbx := box_here w #[v] 22
  have hT0 := hT.keep (Kept.belowB hb0 hS)
  obtain ⟨W0, hW0⟩ : ∃ W0, w.alloc (.cells #[v] 22) = W0 := ⟨_, rfl⟩
  have hp : w.heap.size < W0.heap.size := by rw [← hW0]; simp
  rw [hW0] at hb0 hbx hT0
  have H := Lib.hid (joined_any 28 w.heap.size (plainL l) W0 (fun args w => enters_of Try.func28 (by kernel_rfl) rfl args w) (by omega)
    (fun W1 h1 _ => plain1_any S l v W0 hT0 (fun b h => Nat.lt_trans (hS b h) hp) hsz w.heap.size hp hbx W1 h1))
  obtain ⟨A, c, rfl, _⟩ := hT.shape
  clear hT hT0 hbx
  go_enter Try.func15, Try.ntmps15
  go_wp2_with fail
  refine H.out.mono ?_
  rintro e W2 ⟨rfl, h2⟩
  go_wp2_with fail
  go_ret
  exact ⟨_, rfl, rfl, hb0.trans (h2.mono (Nat.le_of_lt hp))⟩

set_option maxHeartbeats 1000000 in
set_option maxRecDepth 100000 in
theorem length_any (S : Nat → Prop) (l : List Nd) (v : Value) (w : World) (hT : Tree S w l v) (hS : ∀ b, S b → b < w.heap.size) (hsz : szL l ≤ 140000) :
    Calls Try.prog 9 #[v] w fun e w' => e = .returned (.int .i64 ((txtL false l).length : Int)) ∧ Below w.heap.size w w' := by
  have hlen := txt_len l false
  have hb0 := below_new w (.cells #[.int .i64 0] 3)
  have hI : CountIn w.heap.size w [] (w.alloc (.cells #[.int .i64 0] 3)) := ⟨box_here w #[.int .i64 0] 3, hb0⟩
  have H := Lib.hid (nodes_any l (out_counts w.heap.size w) S hS false v [] _ hT hI hsz (by simp only [List.length_nil]; omega))
  obtain ⟨A, c, rfl, _⟩ := hT.shape
  clear hT
  go_enter Try.func9, Try.ntmps9
  go_wp2_with fail
  refine H.out.mono ?_
  rintro e W2 ⟨rfl, h2, _⟩
  have c0 := cell_at h2.1 0
  go_wp2_with fail
  go_ret
  exact ⟨rfl, h2.2⟩

set_option maxHeartbeats 1000000 in
set_option maxRecDepth 100000 in
theorem open1_any (S : Nat → Prop) (n : Nd) (va vk : Value) (w : World) (hat : AttrsAt S w n.attrs va) (hkt : ∃ A c, vk = .slice A n.kids.length c) (hS : ∀ b, S b → b < w.heap.size) (hsz : szN n ≤ 140000)
    (p : Nat) (hp : p < w.heap.size) (hbox : w.heap[p]? = some (.cells #[.int .i64 n.kind, .string n.name, va, .string n.text, vk] 29 (0, 0))) (W1 : World) (hI : BuiltIn w.heap.size w [] W1) :
    Calls Try.prog 24 #[.func (.func 37) #[] #[.pointer (some ⟨w.heap.size, 0, none⟩)], .pointer (some ⟨p, 0, none⟩)] W1 (Told (BuiltIn w.heap.size w) w.heap.size W1 (openE n)) := by
  have hM : (openE n).length ≤ 140000000 := by have h1 := openT_len n; have h2 := szN_eq n; unfold openE; split <;> simp <;> omega
  have hbx := (hI.2.block p hp).trans hbox
  have c0 := cell_at hbx 0
  have c1 := cell_at hbx 1
  have c2 := cell_at hbx 2
  have c3 := cell_at hbx 3
  have c4 := cell_at hbx 4
  have H := Lib.hid (begin_any (out_writes w.heap.size w (Nat.le_refl _)) S hS n va vk hat hkt [] W1 hI hsz (by simp only [List.length_nil]; omega))
  obtain ⟨A1, a1, rfl, _, _⟩ := id hat
  obtain ⟨A2, a2, rfl⟩ := hkt
  clear hbx hbox hat
  go_enter Try.func24, Try.ntmps24
  go_wp2_with fail
  refine H.out.mono ?_
  rintro e W2 ⟨rfl, h2, k2⟩
  go_wp2_with fail
  go_end0
  exact ⟨rfl, h2, k2⟩

set_option maxHeartbeats 1000000 in
set_option maxRecDepth 100000 in
theorem open_any (S : Nat → Prop) (n : Nd) (va vk : Value) (w : World) (hat : AttrsAt S w n.attrs va) (hkt : Tree S w n.kids vk) (hS : ∀ b, S b → b < w.heap.size) (hsz : szN n ≤ 140000) :
    Calls Try.prog 12 #[.agg #[.int .i64 n.kind, .string n.name, va, .string n.text, vk]] w fun e w' =>
      ∃ s : ByteArray, e = .returned (.string s) ∧ s.data.toList = openE n ∧ Below w.heap.size w w' := by
  have hM : (openE n).length ≤ 140000000 := by have h1 := openT_len n; have h2 := szN_eq n; unfold openE; split <;> simp <;> omega
  have hb0 := below_new w (.cells #[.int .i64 n.kind, .string n.name, va, .string n.text, vk] 29)
  have hbx := box_here w #[.int .i64 n.kind, .string n.name, va, .string n.text, vk] 29
  have hat0 := hat.keep (Kept.belowB hb0 hS)
  obtain ⟨W0, hW0⟩ : ∃ W0, w.alloc (.cells #[.int .i64 n.kind, .string n.name, va, .string n.text, vk] 29) = W0 := ⟨_, rfl⟩
  have hp : w.heap.size < W0.heap.size := by rw [← hW0]; simp
  obtain ⟨A2, a2, rfl, _⟩ := hkt.shape
  rw [hW0] at hb0 hbx hat0
  have H := Lib.hid (joined_any 24 w.heap.size (openE n) W0 (fun args w => enters_of Try.func24 (by kernel_rfl) rfl args w) (by omega)
    (fun W1 h1 _ => open1_any S n va _ W0 hat0 ⟨_, _, rfl⟩ (fun b h => Nat.lt_trans (hS b h) hp) hsz w.heap.size hp hbx W1 h1))
  obtain ⟨A1, a1, rfl, _, _⟩ := id hat
  clear hat hat0 hbx hkt
  go_enter Try.func12, Try.ntmps12
  go_wp2_with fail
  refine H.out.mono ?_
  rintro e W2 ⟨rfl, h2⟩
  go_wp2_with fail
  go_ret
  exact ⟨_, rfl, rfl, hb0.trans (h2.mono (Nat.le_of_lt hp))⟩

set_option maxHeartbeats 1000000 in
set_option maxRecDepth 100000 in
theorem close1_any (S : Nat → Prop) (n : Nd) (va vk : Value) (w : World) (hat : AttrsAt S w n.attrs va) (hkt : ∃ A c, vk = .slice A n.kids.length c) (hS : ∀ b, S b → b < w.heap.size) (hsz : szN n ≤ 140000)
    (p : Nat) (hp : p < w.heap.size) (hbox : w.heap[p]? = some (.cells #[.int .i64 n.kind, .string n.name, va, .string n.text, vk] 29 (0, 0))) (W1 : World) (hI : BuiltIn w.heap.size w [] W1) :
    Calls Try.prog 26 #[.func (.func 37) #[] #[.pointer (some ⟨w.heap.size, 0, none⟩)], .pointer (some ⟨p, 0, none⟩)] W1 (Told (BuiltIn w.heap.size w) w.heap.size W1 (closeE n)) := by
  have hM : (closeE n).length ≤ 140000000 := by have h1 := closeT_len n; have h2 := szN_eq n; unfold closeE; split <;> simp <;> omega
  have hbx := (hI.2.block p hp).trans hbox
  have c0 := cell_at hbx 0
  have c1 := cell_at hbx 1
  have c2 := cell_at hbx 2
  have c3 := cell_at hbx 3
  have c4 := cell_at hbx 4
  have H := Lib.hid (end_any (out_writes w.heap.size w (Nat.le_refl _)) n va vk (by obtain ⟨A, c, e, _⟩ := hat; exact ⟨A, c, e⟩) hkt [] W1 hI (by simp only [List.length_nil]; omega))
  obtain ⟨A1, a1, rfl, _, _⟩ := id hat
  obtain ⟨A2, a2, rfl⟩ := hkt
  clear hbx hbox hat
  go_enter Try.func26, Try.ntmps26
  go_wp2_with fail
  refine H.out.mono ?_
  rintro e W2 ⟨rfl, h2, k2⟩
  go_wp2_with fail
  go_end0
  exact ⟨rfl, h2, k2⟩

set_option maxHeartbeats 1000000 in
set_option maxRecDepth 100000 in
theorem close_any (S : Nat → Prop) (n : Nd) (va vk : Value) (w : World) (hat : AttrsAt S w n.attrs va) (hkt : Tree S w n.kids vk) (hS : ∀ b, S b → b < w.heap.size) (hsz : szN n ≤ 140000) :
    Calls Try.prog 13 #[.agg #[.int .i64 n.kind, .string n.name, va, .string n.text, vk]] w fun e w' =>
      ∃ s : ByteArray, e = .returned (.string s) ∧ s.data.toList = closeE n ∧ Below w.heap.size w w' := by
  have hM : (closeE n).length ≤ 140000000 := by have h1 := closeT_len n; have h2 := szN_eq n; unfold closeE; split <;> simp <;> omega
  have hb0 := below_new w (.cells #[.int .i64 n.kind, .string n.name, va, .string n.text, vk] 29)
  have hbx := box_here w #[.int .i64 n.kind, .string n.name, va, .string n.text, vk] 29
  have hat0 := hat.keep (Kept.belowB hb0 hS)
  obtain ⟨W0, hW0⟩ : ∃ W0, w.alloc (.cells #[.int .i64 n.kind, .string n.name, va, .string n.text, vk] 29) = W0 := ⟨_, rfl⟩
  have hp : w.heap.size < W0.heap.size := by rw [← hW0]; simp
  obtain ⟨A2, a2, rfl, _⟩ := hkt.shape
  rw [hW0] at hb0 hbx hat0
  have H := Lib.hid (joined_any 26 w.heap.size (closeE n) W0 (fun args w => enters_of Try.func26 (by kernel_rfl) rfl args w) (by omega)
    (fun W1 h1 _ => close1_any S n va _ W0 hat0 ⟨_, _, rfl⟩ (fun b h => Nat.lt_trans (hS b h) hp) hsz w.heap.size hp hbx W1 h1))
  obtain ⟨A1, a1, rfl, _, _⟩ := id hat
  clear hat hat0 hbx hkt
  go_enter Try.func13, Try.ntmps13
  go_wp2_with fail
  refine H.out.mono ?_
  rintro e W2 ⟨rfl, h2⟩
  go_wp2_with fail
  go_ret
  exact ⟨_, rfl, rfl, hb0.trans (h2.mono (Nat.le_of_lt hp))⟩

end Go.Proofs.Ytenjhfkdbmljnaa
