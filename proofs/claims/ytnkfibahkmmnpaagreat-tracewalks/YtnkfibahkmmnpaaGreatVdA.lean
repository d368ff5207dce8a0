/-
  The walks of the document's reg, plane, constant, named, reads, heavy.
-/
import Derived.Test.YtnkfibahkmmnpaaGreatVdM
import Derived.Test.YtnkfibahkmmnpaaGreatVrG
import Derived.BigRegion
import Derived.BigQuiet
namespace Go.Proofs.YtnkfibahkmmnpaaGreat
open Go.RowKit

section
variable {w0 w : World} {b : Nat} {c : Cd} {s : Ls} {S : St} {wv : Nat → Value} {gr gk gw R P : Nat}
theorem dreg_calls (n : Int) (h : Dl w0 w b c s S wv gr gk gw R P) : Calls Tryz.prog 89 #[.pointer (some ⟨b, 0, none⟩), .int .i64 n] w fun e w' => e = .returned (.bool (decide (n < c.regs))) ∧ w = w' := by
  have h2 := h.cell 2 (v := .int .i64 c.regs) rfl
  clear h
  go_enter Tryz.func89, Tryz.ntmps89
  go_wp2
  go_ret
  exact ⟨rfl, rfl⟩
theorem dplane_calls (n : Int) (h : Dl w0 w b c s S wv gr gk gw R P) : Calls Tryz.prog 90 #[.pointer (some ⟨b, 0, none⟩), .int .i64 n] w fun e w' => e = .returned (.bool (decide (n < c.planes))) ∧ w = w' := by
  have h2 := h.cell 1 (v := .int .i64 c.planes) rfl
  clear h
  go_enter Tryz.func90, Tryz.ntmps90
  go_wp2
  go_ret
  exact ⟨rfl, rfl⟩
theorem dconst_calls (n : Int) (h : Dl w0 w b c s S wv gr gk gw R P) : Calls Tryz.prog 91 #[.pointer (some ⟨b, 0, none⟩), .int .i64 n] w fun e w' => e = .returned (.bool (decide (n < (c.consts.length : Int)))) ∧ w = w' := by
  have h2 := h.cell 7 (v := .slice s.k.a s.k.n s.k.c) rfl
  have hl : c.consts.length = s.k.n := h.cd.consts.length
  rw [hl]
  clear h hl
  go_enter Tryz.func91, Tryz.ntmps91
  go_wp2
  go_ret
  exact ⟨rfl, rfl⟩
theorem dheavy_calls (n : Int) (h : Dl w0 w b c s S wv gr gk gw R P) : Calls Tryz.prog 92 #[.pointer (some ⟨b, 0, none⟩), .int .i64 n] w fun e w' => e = .returned (.tuple #[]) ∧ Dl w0 w' b c s (weighP S n) wv gr gk gw R P := by
  have h2 := h.cell 13 (v := .int .i64 (max S.top 1)) rfl
  have hf := frozen_of_row w b 13 _ _ h.box
  have H : Hid (Dl w0 w b c s S wv gr gk gw R P) := h
  clear h
  obtain ⟨t, ht⟩ : ∃ t, max S.top 1 = t := ⟨_, rfl⟩
  rw [ht] at h2
  have HT : Hid (max S.top 1 = t) := ht
  clear ht
  by_cases hn : t < n
  · have HW : Hid (Dl w0 (w.setCell ⟨b, 13, none⟩ (.int .i64 n)) b c s (weighP S n) wv gr gk gw R P) := H.out.heavy n (by have := HT.out; omega)
    go_enter Tryz.func92, Tryz.ntmps92
    go_wp2
    go_end0
    exact ⟨rfl, HW.out⟩
  · have HW : Hid (Dl w0 w b c s (weighP S n) wv gr gk gw R P) := H.out.light n (by have := HT.out; omega)
    go_enter Tryz.func92, Tryz.ntmps92
    go_wp2
    go_end0
    exact ⟨rfl, HW.out⟩

set_option maxHeartbeats 1000000 in
theorem dnamed1 (y z u : Int) (h : Dl w0 w b c s S wv gr gk gw R P) (hzu : 0 ≤ z ∧ 0 ≤ u) : Calls Tryz.prog 65 #[.pointer (some ⟨b, 0, none⟩), .agg #[.int .i64 1, .int .i64 y, .int .i64 z, .int .i64 u]] w fun e w' => e = .returned (.bool (namB c (1, y, z, u))) ∧ Below w.heap.size w w' := by
  have HE0 : namB c (1, y, z, u) = (decide (y < c.regs) && (z == 0) && (u == 0)) := by
    rw [Bool.eq_iff_iff]
    simp [namB, limB]
    try (have h1 := hzu.1; have h2 := hzu.2; omega)
  have HE : Hid (namB c (1, y, z, u) = (decide (y < c.regs) && (z == 0) && (u == 0))) := HE0
  have H : Hid (Dl w0 (w.alloc (.cells #[.int .i64 1, .int .i64 y, .int .i64 z, .int .i64 u] 65)) b c s S wv gr gk gw R P) := h.next (below_new _)
  clear HE0 h hzu
  go_enter Tryz.func65, Tryz.ntmps65
  go_wp2_with (first | (go_at_call 89; refine (dreg_calls _ H.out).mono ?_; rintro e w1 ⟨rfl, rfl⟩) | (go_at_call 90; refine (dplane_calls _ H.out).mono ?_; rintro e w1 ⟨rfl, rfl⟩) | (go_at_call 91; refine (dconst_calls _ H.out).mono ?_; rintro e w1 ⟨rfl, rfl⟩))
  all_goals (go_ret; refine ⟨ret_bool ?_, below_new _⟩; rw [HE.out]; clear HE H; first | (simp_all; done) | (simp_all; omega))

set_option maxHeartbeats 1000000 in
theorem dnamed2 (y z u : Int) (h : Dl w0 w b c s S wv gr gk gw R P) (hzu : 0 ≤ z ∧ 0 ≤ u) : Calls Tryz.prog 65 #[.pointer (some ⟨b, 0, none⟩), .agg #[.int .i64 2, .int .i64 y, .int .i64 z, .int .i64 u]] w fun e w' => e = .returned (.bool (namB c (2, y, z, u))) ∧ Below w.heap.size w w' := by
  have HE0 : namB c (2, y, z, u) = (decide (y < c.regs) && decide (z < (c.consts.length : Int)) && decide (u ≤ 3)) := by
    rw [Bool.eq_iff_iff]
    simp [namB, limB]
    try (have h1 := hzu.1; have h2 := hzu.2; omega)
  have HE : Hid (namB c (2, y, z, u) = (decide (y < c.regs) && decide (z < (c.consts.length : Int)) && decide (u ≤ 3))) := HE0
  have H : Hid (Dl w0 (w.alloc (.cells #[.int .i64 2, .int .i64 y, .int .i64 z, .int .i64 u] 65)) b c s S wv gr gk gw R P) := h.next (below_new _)
  clear HE0 h hzu
  go_enter Tryz.func65, Tryz.ntmps65
  go_wp2_with (first | (go_at_call 89; refine (dreg_calls _ H.out).mono ?_; rintro e w1 ⟨rfl, rfl⟩) | (go_at_call 90; refine (dplane_calls _ H.out).mono ?_; rintro e w1 ⟨rfl, rfl⟩) | (go_at_call 91; refine (dconst_calls _ H.out).mono ?_; rintro e w1 ⟨rfl, rfl⟩))
  all_goals (go_ret; refine ⟨ret_bool ?_, below_new _⟩; rw [HE.out]; clear HE H; first | (simp_all; done) | (simp_all; omega))

set_option maxHeartbeats 1000000 in
theorem dnamed3 (y z u : Int) (h : Dl w0 w b c s S wv gr gk gw R P) (hzu : 0 ≤ z ∧ 0 ≤ u) : Calls Tryz.prog 65 #[.pointer (some ⟨b, 0, none⟩), .agg #[.int .i64 3, .int .i64 y, .int .i64 z, .int .i64 u]] w fun e w' => e = .returned (.bool (namB c (3, y, z, u))) ∧ Below w.heap.size w w' := by
  have HE0 : namB c (3, y, z, u) = (decide (y < c.regs) && decide (z < c.planes) && decide (u ≤ 3)) := by
    rw [Bool.eq_iff_iff]
    simp [namB, limB]
    try (have h1 := hzu.1; have h2 := hzu.2; omega)
  have HE : Hid (namB c (3, y, z, u) = (decide (y < c.regs) && decide (z < c.planes) && decide (u ≤ 3))) := HE0
  have H : Hid (Dl w0 (w.alloc (.cells #[.int .i64 3, .int .i64 y, .int .i64 z, .int .i64 u] 65)) b c s S wv gr gk gw R P) := h.next (below_new _)
  clear HE0 h hzu
  go_enter Tryz.func65, Tryz.ntmps65
  go_wp2_with (first | (go_at_call 89; refine (dreg_calls _ H.out).mono ?_; rintro e w1 ⟨rfl, rfl⟩) | (go_at_call 90; refine (dplane_calls _ H.out).mono ?_; rintro e w1 ⟨rfl, rfl⟩) | (go_at_call 91; refine (dconst_calls _ H.out).mono ?_; rintro e w1 ⟨rfl, rfl⟩))
  all_goals (go_ret; refine ⟨ret_bool ?_, below_new _⟩; rw [HE.out]; clear HE H; first | (simp_all; done) | (simp_all; omega))

set_option maxHeartbeats 1000000 in
theorem dnamed4 (y z u : Int) (h : Dl w0 w b c s S wv gr gk gw R P) (hzu : 0 ≤ z ∧ 0 ≤ u) : Calls Tryz.prog 65 #[.pointer (some ⟨b, 0, none⟩), .agg #[.int .i64 4, .int .i64 y, .int .i64 z, .int .i64 u]] w fun e w' => e = .returned (.bool (namB c (4, y, z, u))) ∧ Below w.heap.size w w' := by
  have HE0 : namB c (4, y, z, u) = (decide (y < c.regs) && decide (z < (c.consts.length : Int)) && (u == 0)) := by
    rw [Bool.eq_iff_iff]
    simp [namB, limB]
    try (have h1 := hzu.1; have h2 := hzu.2; omega)
  have HE : Hid (namB c (4, y, z, u) = (decide (y < c.regs) && decide (z < (c.consts.length : Int)) && (u == 0))) := HE0
  have H : Hid (Dl w0 (w.alloc (.cells #[.int .i64 4, .int .i64 y, .int .i64 z, .int .i64 u] 65)) b c s S wv gr gk gw R P) := h.next (below_new _)
  clear HE0 h hzu
  go_enter Tryz.func65, Tryz.ntmps65
  go_wp2_with (first | (go_at_call 89; refine (dreg_calls _ H.out).mono ?_; rintro e w1 ⟨rfl, rfl⟩) | (go_at_call 90; refine (dplane_calls _ H.out).mono ?_; rintro e w1 ⟨rfl, rfl⟩) | (go_at_call 91; refine (dconst_calls _ H.out).mono ?_; rintro e w1 ⟨rfl, rfl⟩))
  all_goals (go_ret; refine ⟨ret_bool ?_, below_new _⟩; rw [HE.out]; clear HE H; first | (simp_all; done) | (simp_all; omega))

set_option maxHeartbeats 1000000 in
theorem dnamed5 (y z u : Int) (h : Dl w0 w b c s S wv gr gk gw R P) (hzu : 0 ≤ z ∧ 0 ≤ u) : Calls Tryz.prog 65 #[.pointer (some ⟨b, 0, none⟩), .agg #[.int .i64 5, .int .i64 y, .int .i64 z, .int .i64 u]] w fun e w' => e = .returned (.bool (namB c (5, y, z, u))) ∧ Below w.heap.size w w' := by
  have HE0 : namB c (5, y, z, u) = (decide (y < c.regs) && (z == 0) && (u == 0)) := by
    rw [Bool.eq_iff_iff]
    simp [namB, limB]
    try (have h1 := hzu.1; have h2 := hzu.2; omega)
  have HE : Hid (namB c (5, y, z, u) = (decide (y < c.regs) && (z == 0) && (u == 0))) := HE0
  have H : Hid (Dl w0 (w.alloc (.cells #[.int .i64 5, .int .i64 y, .int .i64 z, .int .i64 u] 65)) b c s S wv gr gk gw R P) := h.next (below_new _)
  clear HE0 h hzu
  go_enter Tryz.func65, Tryz.ntmps65
  go_wp2_with (first | (go_at_call 89; refine (dreg_calls _ H.out).mono ?_; rintro e w1 ⟨rfl, rfl⟩) | (go_at_call 90; refine (dplane_calls _ H.out).mono ?_; rintro e w1 ⟨rfl, rfl⟩) | (go_at_call 91; refine (dconst_calls _ H.out).mono ?_; rintro e w1 ⟨rfl, rfl⟩))
  all_goals (go_ret; refine ⟨ret_bool ?_, below_new _⟩; rw [HE.out]; clear HE H; first | (simp_all; done) | (simp_all; omega))

set_option maxHeartbeats 1000000 in
theorem dnamed6 (y z u : Int) (h : Dl w0 w b c s S wv gr gk gw R P) (_hzu : 0 ≤ z ∧ 0 ≤ u) : Calls Tryz.prog 65 #[.pointer (some ⟨b, 0, none⟩), .agg #[.int .i64 6, .int .i64 y, .int .i64 z, .int .i64 u]] w fun e w' => e = .returned (.bool (namB c (6, y, z, u))) ∧ Below w.heap.size w w' := by
  have HE0 : namB c (6, y, z, u) = (decide (y < c.regs) && decide (z < c.regs) && decide (u < 16)) := by
    rw [Bool.eq_iff_iff]
    simp [namB, limB]
    try (have h1 := _hzu.1; have h2 := _hzu.2; omega)
  have HE : Hid (namB c (6, y, z, u) = (decide (y < c.regs) && decide (z < c.regs) && decide (u < 16))) := HE0
  have H : Hid (Dl w0 (w.alloc (.cells #[.int .i64 6, .int .i64 y, .int .i64 z, .int .i64 u] 65)) b c s S wv gr gk gw R P) := h.next (below_new _)
  clear HE0 h _hzu
  go_enter Tryz.func65, Tryz.ntmps65
  go_wp2_with (first | (go_at_call 89; refine (dreg_calls _ H.out).mono ?_; rintro e w1 ⟨rfl, rfl⟩) | (go_at_call 90; refine (dplane_calls _ H.out).mono ?_; rintro e w1 ⟨rfl, rfl⟩) | (go_at_call 91; refine (dconst_calls _ H.out).mono ?_; rintro e w1 ⟨rfl, rfl⟩))
  all_goals (go_ret; refine ⟨ret_bool ?_, below_new _⟩; rw [HE.out]; clear HE H; first | (simp_all; done) | (simp_all; omega))

set_option maxHeartbeats 1000000 in
theorem dnamed7 (y z u : Int) (h : Dl w0 w b c s S wv gr gk gw R P) (hzu : 0 ≤ z ∧ 0 ≤ u) : Calls Tryz.prog 65 #[.pointer (some ⟨b, 0, none⟩), .agg #[.int .i64 7, .int .i64 y, .int .i64 z, .int .i64 u]] w fun e w' => e = .returned (.bool (namB c (7, y, z, u))) ∧ Below w.heap.size w w' := by
  have HE0 : namB c (7, y, z, u) = (decide (y < c.planes) && decide (z < c.regs) && (u == 0)) := by
    rw [Bool.eq_iff_iff]
    simp [namB, limB]
    try (have h1 := hzu.1; have h2 := hzu.2; omega)
  have HE : Hid (namB c (7, y, z, u) = (decide (y < c.planes) && decide (z < c.regs) && (u == 0))) := HE0
  have H : Hid (Dl w0 (w.alloc (.cells #[.int .i64 7, .int .i64 y, .int .i64 z, .int .i64 u] 65)) b c s S wv gr gk gw R P) := h.next (below_new _)
  clear HE0 h hzu
  go_enter Tryz.func65, Tryz.ntmps65
  go_wp2_with (first | (go_at_call 89; refine (dreg_calls _ H.out).mono ?_; rintro e w1 ⟨rfl, rfl⟩) | (go_at_call 90; refine (dplane_calls _ H.out).mono ?_; rintro e w1 ⟨rfl, rfl⟩) | (go_at_call 91; refine (dconst_calls _ H.out).mono ?_; rintro e w1 ⟨rfl, rfl⟩))
  all_goals (go_ret; refine ⟨ret_bool ?_, below_new _⟩; rw [HE.out]; clear HE H; first | (simp_all; done) | (simp_all; omega))

set_option maxHeartbeats 1000000 in
theorem dnamed8 (y z u : Int) (h : Dl w0 w b c s S wv gr gk gw R P) (hzu : 0 ≤ z ∧ 0 ≤ u) : Calls Tryz.prog 65 #[.pointer (some ⟨b, 0, none⟩), .agg #[.int .i64 8, .int .i64 y, .int .i64 z, .int .i64 u]] w fun e w' => e = .returned (.bool (namB c (8, y, z, u))) ∧ Below w.heap.size w w' := by
  have HE0 : namB c (8, y, z, u) = (decide (y < c.planes) && decide (z < (c.consts.length : Int)) && decide (u ≤ 3)) := by
    rw [Bool.eq_iff_iff]
    simp [namB, limB]
    try (have h1 := hzu.1; have h2 := hzu.2; omega)
  have HE : Hid (namB c (8, y, z, u) = (decide (y < c.planes) && decide (z < (c.consts.length : Int)) && decide (u ≤ 3))) := HE0
  have H : Hid (Dl w0 (w.alloc (.cells #[.int .i64 8, .int .i64 y, .int .i64 z, .int .i64 u] 65)) b c s S wv gr gk gw R P) := h.next (below_new _)
  clear HE0 h hzu
  go_enter Tryz.func65, Tryz.ntmps65
  go_wp2_with (first | (go_at_call 89; refine (dreg_calls _ H.out).mono ?_; rintro e w1 ⟨rfl, rfl⟩) | (go_at_call 90; refine (dplane_calls _ H.out).mono ?_; rintro e w1 ⟨rfl, rfl⟩) | (go_at_call 91; refine (dconst_calls _ H.out).mono ?_; rintro e w1 ⟨rfl, rfl⟩))
  all_goals (go_ret; refine ⟨ret_bool ?_, below_new _⟩; rw [HE.out]; clear HE H; first | (simp_all; done) | (simp_all; omega))

theorem dnamed_calls (x y z u : Int) (h : Dl w0 w b c s S wv gr gk gw R P) (hx : 1 ≤ x ∧ x ≤ 8) (hz : 0 ≤ z) (hu : 0 ≤ u) : Calls Tryz.prog 65 #[.pointer (some ⟨b, 0, none⟩), .agg #[.int .i64 x, .int .i64 y, .int .i64 z, .int .i64 u]] w fun e w' => e = .returned (.bool (namB c (x, y, z, u))) ∧ Below w.heap.size w w' := by
  have : x = 1 ∨ x = 2 ∨ x = 3 ∨ x = 4 ∨ x = 5 ∨ x = 6 ∨ x = 7 ∨ x = 8 := by omega
  rcases this with rfl | rfl | rfl | rfl | rfl | rfl | rfl | rfl
  · exact dnamed1 y z u h ⟨hz, hu⟩
  · exact dnamed2 y z u h ⟨hz, hu⟩
  · exact dnamed3 y z u h ⟨hz, hu⟩
  · exact dnamed4 y z u h ⟨hz, hu⟩
  · exact dnamed5 y z u h ⟨hz, hu⟩
  · exact dnamed6 y z u h ⟨hz, hu⟩
  · exact dnamed7 y z u h ⟨hz, hu⟩
  · exact dnamed8 y z u h ⟨hz, hu⟩
/-- What an instruction names is there, among so many. -/
structure Nd (o : Int) (x y R P : Nat) : Prop where
  a : o ≤ 6 → x < R
  b3 : o = 3 → y < P
  b6 : o = 6 → y < R
  p7 : o = 7 → x < P ∧ y < R
  p8 : o = 8 → x < P
theorem nd_of {c : Cd} {o : Int} {x y z R P : Nat} (hR : c.regs = R) (hP : c.planes = P) (h1 : 1 ≤ o) (h2 : o ≤ 8) (h : namB c (o, (x : Int), (y : Int), (z : Int)) = true) : Nd o x y R P := by
  simp only [namB, Bool.and_eq_true, decide_eq_true_eq] at h
  have : o = 1 ∨ o = 2 ∨ o = 3 ∨ o = 4 ∨ o = 5 ∨ o = 6 ∨ o = 7 ∨ o = 8 := by omega
  rcases this with rfl | rfl | rfl | rfl | rfl | rfl | rfl | rfl <;> (simp [limB] at h; refine ⟨fun _ => ?_, fun _ => ?_, fun _ => ?_, fun _ => ?_, fun _ => ?_⟩ <;> first | omega | (rename_i hh; exact absurd hh (by decide)))
theorem Dl.reg0 (h : Dl w0 w b c s S wv gr gk gw R P) (k : Nat) (hk : k < R) : w.cell? ⟨gr, k * 7, none⟩ = some (.bool (S.regs k).wr) := h.reg k 0 hk (by omega) rfl

theorem dreads1 (x y z : Nat) : Calls Tryz.prog 66 #[.pointer (some ⟨b, 0, none⟩), .agg #[.int .i64 1, .int .i64 x, .int .i64 y, .int .i64 z]] w fun e w' => e = .returned (.bool (rdB S (1, x, y, z))) ∧ Below w.heap.size w w' := by
  have HE : Hid (rdB S (1, (x : Int), (y : Int), (z : Int)) = true) := by show _ = _; simp [rdB]
  go_enter Tryz.func66, Tryz.ntmps66
  go_wp2
  go_ret
  exact ⟨ret_bool HE.out.symm, below_new _⟩
theorem dreads2 (x y z : Nat) : Calls Tryz.prog 66 #[.pointer (some ⟨b, 0, none⟩), .agg #[.int .i64 2, .int .i64 x, .int .i64 y, .int .i64 z]] w fun e w' => e = .returned (.bool (rdB S (2, x, y, z))) ∧ Below w.heap.size w w' := by
  have HE : Hid (rdB S (2, (x : Int), (y : Int), (z : Int)) = true) := by show _ = _; simp [rdB]
  go_enter Tryz.func66, Tryz.ntmps66
  go_wp2
  go_ret
  exact ⟨ret_bool HE.out.symm, below_new _⟩
set_option maxHeartbeats 1000000 in
theorem dreads3 (x y z : Nat) (h : Dl w0 w b c s S wv gr gk gw R P) (hn : Nd 3 x y R P) : Calls Tryz.prog 66 #[.pointer (some ⟨b, 0, none⟩), .agg #[.int .i64 3, .int .i64 x, .int .i64 y, .int .i64 z]] w fun e w' => e = .returned (.bool (rdB S (3, x, y, z))) ∧ Below w.heap.size w w' := by
  have hlb := lt_block h.box
  have hlr := lt_block h.regs
  have hlk := lt_block h.kept
  have k10 := h.cell 10 (v := .slice (some ⟨gr, 0, none⟩) R R) rfl
  have k11 := h.cell 11 (v := .slice (some ⟨gk, 0, none⟩) P P) rfl
  have p0 := h.kp y (hn.b3 rfl)
  have hyP := hn.b3 rfl
  have HE : Hid (rdB S (3, (x : Int), (y : Int), (z : Int)) = (!((z : Int) == 0) || (S.pl y).1)) := by show _ = _; simp [rdB]
  obtain ⟨v, hv⟩ : ∃ v, (S.pl y).1 = v := ⟨_, rfl⟩
  rw [hv] at p0 HE
  clear hv h hn
  by_cases hz : z = 0
  · have ez : ((z : Int) != 0) = false := by simp [hz]
    have HE2 : Hid (rdB S (3, (x : Int), (y : Int), (z : Int)) = v) := by show _ = _; rw [HE.out]; simp [hz]
    clear hz HE
    go_enter Tryz.func66, Tryz.ntmps66
    go_wp2_with fail
    go_quiet (fail)
    go_wp2
    go_ret
    exact ⟨ret_bool HE2.out.symm, below_drewN (below_new _) nq⟩
  · have ez : ((z : Int) != 0) = true := by simp [hz]
    have HE2 : Hid (rdB S (3, (x : Int), (y : Int), (z : Int)) = true) := by show _ = _; rw [HE.out]; simp [hz]
    clear hz HE
    go_enter Tryz.func66, Tryz.ntmps66
    go_wp2_with fail
    go_quiet (fail)
    go_wp2
    go_ret
    exact ⟨ret_bool HE2.out.symm, below_drewN (below_new _) nq⟩
set_option maxHeartbeats 1000000 in
theorem dreads4 (x y z : Nat) (h : Dl w0 w b c s S wv gr gk gw R P) (hn : Nd 4 x y R P) : Calls Tryz.prog 66 #[.pointer (some ⟨b, 0, none⟩), .agg #[.int .i64 4, .int .i64 x, .int .i64 y, .int .i64 z]] w fun e w' => e = .returned (.bool (rdB S (4, x, y, z))) ∧ Below w.heap.size w w' := by
  have hlb := lt_block h.box
  have hlr := lt_block h.regs
  have hlk := lt_block h.kept
  have k10 := h.cell 10 (v := .slice (some ⟨gr, 0, none⟩) R R) rfl
  have k11 := h.cell 11 (v := .slice (some ⟨gk, 0, none⟩) P P) rfl
  have p0 := h.reg0 x (hn.a (by decide))
  have hxR := hn.a (by decide)
  have HE : Hid (rdB S (4, (x : Int), (y : Int), (z : Int)) = ((S.regs x).wr)) := by show _ = _; simp [rdB]
  generalize (S.regs x).wr = v at *
  clear h hn
  go_enter Tryz.func66, Tryz.ntmps66
  go_wp2_with fail
  go_quiet (fail)
  go_wp2
  go_ret
  exact ⟨ret_bool HE.out.symm, below_drewN (below_new _) nq⟩
set_option maxHeartbeats 1000000 in
theorem dreads5 (x y z : Nat) (h : Dl w0 w b c s S wv gr gk gw R P) (hn : Nd 5 x y R P) : Calls Tryz.prog 66 #[.pointer (some ⟨b, 0, none⟩), .agg #[.int .i64 5, .int .i64 x, .int .i64 y, .int .i64 z]] w fun e w' => e = .returned (.bool (rdB S (5, x, y, z))) ∧ Below w.heap.size w w' := by
  have hlb := lt_block h.box
  have hlr := lt_block h.regs
  have hlk := lt_block h.kept
  have k10 := h.cell 10 (v := .slice (some ⟨gr, 0, none⟩) R R) rfl
  have k11 := h.cell 11 (v := .slice (some ⟨gk, 0, none⟩) P P) rfl
  have p0 := h.reg0 x (hn.a (by decide))
  have hxR := hn.a (by decide)
  have HE : Hid (rdB S (5, (x : Int), (y : Int), (z : Int)) = ((S.regs x).wr)) := by show _ = _; simp [rdB]
  generalize (S.regs x).wr = v at *
  clear h hn
  go_enter Tryz.func66, Tryz.ntmps66
  go_wp2_with fail
  go_quiet (fail)
  go_wp2
  go_ret
  exact ⟨ret_bool HE.out.symm, below_drewN (below_new _) nq⟩
set_option maxHeartbeats 1000000 in
theorem dreads6 (x y z : Nat) (h : Dl w0 w b c s S wv gr gk gw R P) (hn : Nd 6 x y R P) : Calls Tryz.prog 66 #[.pointer (some ⟨b, 0, none⟩), .agg #[.int .i64 6, .int .i64 x, .int .i64 y, .int .i64 z]] w fun e w' => e = .returned (.bool (rdB S (6, x, y, z))) ∧ Below w.heap.size w w' := by
  have hlb := lt_block h.box
  have hlr := lt_block h.regs
  have hlk := lt_block h.kept
  have k10 := h.cell 10 (v := .slice (some ⟨gr, 0, none⟩) R R) rfl
  have k11 := h.cell 11 (v := .slice (some ⟨gk, 0, none⟩) P P) rfl
  have p0 := h.reg0 x (hn.a (by decide))
  have q0 := h.reg0 y (hn.b6 rfl)
  have hxR := hn.a (by decide)
  have hyR := hn.b6 rfl
  have HE : Hid (rdB S (6, (x : Int), (y : Int), (z : Int)) = ((S.regs x).wr && (S.regs y).wr)) := by show _ = _; simp [rdB]
  generalize (S.regs x).wr = v at *
  generalize (S.regs y).wr = v2 at *
  clear h hn
  cases v
  · go_enter Tryz.func66, Tryz.ntmps66
    go_wp2_with fail
    go_quiet (fail)
    go_wp2
    go_ret
    exact ⟨ret_bool HE.out.symm, below_drewN (below_new _) nq⟩
  · go_enter Tryz.func66, Tryz.ntmps66
    go_wp2_with fail
    go_quiet (fail)
    go_wp2
    go_ret
    exact ⟨ret_bool HE.out.symm, below_drewN (below_new _) nq⟩
set_option maxHeartbeats 1000000 in
theorem dreads7 (x y z : Nat) (h : Dl w0 w b c s S wv gr gk gw R P) (hn : Nd 7 x y R P) : Calls Tryz.prog 66 #[.pointer (some ⟨b, 0, none⟩), .agg #[.int .i64 7, .int .i64 x, .int .i64 y, .int .i64 z]] w fun e w' => e = .returned (.bool (rdB S (7, x, y, z))) ∧ Below w.heap.size w w' := by
  have hlb := lt_block h.box
  have hlr := lt_block h.regs
  have hlk := lt_block h.kept
  have k10 := h.cell 10 (v := .slice (some ⟨gr, 0, none⟩) R R) rfl
  have k11 := h.cell 11 (v := .slice (some ⟨gk, 0, none⟩) P P) rfl
  have q0 := h.reg0 y (hn.p7 rfl).2
  have hyR := (hn.p7 rfl).2
  have HE : Hid (rdB S (7, (x : Int), (y : Int), (z : Int)) = ((S.regs y).wr)) := by show _ = _; simp [rdB]
  generalize (S.regs y).wr = v at *
  clear h hn
  go_enter Tryz.func66, Tryz.ntmps66
  go_wp2_with fail
  go_quiet (fail)
  go_wp2
  go_ret
  exact ⟨ret_bool HE.out.symm, below_drewN (below_new _) nq⟩
set_option maxHeartbeats 1000000 in
theorem dreads8 (x y z : Nat) (h : Dl w0 w b c s S wv gr gk gw R P) (hn : Nd 8 x y R P) : Calls Tryz.prog 66 #[.pointer (some ⟨b, 0, none⟩), .agg #[.int .i64 8, .int .i64 x, .int .i64 y, .int .i64 z]] w fun e w' => e = .returned (.bool (rdB S (8, x, y, z))) ∧ Below w.heap.size w w' := by
  have hlb := lt_block h.box
  have hlr := lt_block h.regs
  have hlk := lt_block h.kept
  have k10 := h.cell 10 (v := .slice (some ⟨gr, 0, none⟩) R R) rfl
  have k11 := h.cell 11 (v := .slice (some ⟨gk, 0, none⟩) P P) rfl
  have q0 := h.kp x (hn.p8 rfl)
  have hxP := hn.p8 rfl
  have HE : Hid (rdB S (8, (x : Int), (y : Int), (z : Int)) = ((S.pl x).1)) := by show _ = _; simp [rdB]
  generalize (S.pl x).1 = v at *
  clear h hn
  go_enter Tryz.func66, Tryz.ntmps66
  go_wp2_with fail
  go_quiet (fail)
  go_wp2
  go_ret
  exact ⟨ret_bool HE.out.symm, below_drewN (below_new _) nq⟩
theorem dreads_calls (o : Int) (x y z : Nat) (h : Dl w0 w b c s S wv gr gk gw R P) (hx : 1 ≤ o ∧ o ≤ 8) (hn : Nd o x y R P) : Calls Tryz.prog 66 #[.pointer (some ⟨b, 0, none⟩), .agg #[.int .i64 o, .int .i64 x, .int .i64 y, .int .i64 z]] w fun e w' => e = .returned (.bool (rdB S (o, x, y, z))) ∧ Below w.heap.size w w' := by
  have : o = 1 ∨ o = 2 ∨ o = 3 ∨ o = 4 ∨ o = 5 ∨ o = 6 ∨ o = 7 ∨ o = 8 := by omega
  rcases this with rfl | rfl | rfl | rfl | rfl | rfl | rfl | rfl
  · exact dreads1 x y z
  · exact dreads2 x y z
  · exact dreads3 x y z h hn
  · exact dreads4 x y z h hn
  · exact dreads5 x y z h hn
  · exact dreads6 x y z h hn
  · exact dreads7 x y z h hn
  · exact dreads8 x y z h hn
end
end Go.Proofs.YtnkfibahkmmnpaaGreat
