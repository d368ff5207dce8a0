/-
  Is an arrow a way from here? The least step, and the planes whence its ways come.
-/
import Derived.Test.YtnkfibahkmmnpaaGreatKx
import Derived.Test.YtnkfibahkmmnpaaGreatMlB
import Derived.Test.YtnkfibahkmmnpaaGreatMeI
namespace Go.Proofs.YtnkfibahkmmnpaaGreat
open Go.RowKit

theorem tst_one {m b : Nat} (hm : m < 65536) : (bits .and .i64 ((m : Int) / 2 ^ b) 1 == 1) = m.testBit b := by
  have e : (m : Int) / 2 ^ b = ((m / 2 ^ b : Nat) : Int) := by
    rw [Int.natCast_ediv]; simp
  rw [e, and_one (Nat.lt_of_le_of_lt (Nat.div_le_self _ _) hm), Nat.testBit_eq_decide_div_mod_eq]
  generalize m / 2 ^ b = q
  rcases (show q % 2 = 0 ∨ q % 2 = 1 by omega) with e | e <;> rw [e] <;> rfl
theorem wk_set (g : Nat) (sa : Sl) (i j : Int) (s : Nat → Bool) {p : Nat} (hp : p < 10) : (wkCells g sa i j s)[4 + p]? = some (.bool (s p)) := by
  have : p = 0 ∨ p = 1 ∨ p = 2 ∨ p = 3 ∨ p = 4 ∨ p = 5 ∨ p = 6 ∨ p = 7 ∨ p = 8 ∨ p = 9 := by omega
  rcases this with rfl | rfl | rfl | rfl | rfl | rfl | rfl | rfl | rfl | rfl <;> rfl
section
variable {w0 w : World} {b g gs P X Y : Nat} {sa ta : Sl} {i j : Int} {s : Nat → Bool} {F : Nat → Ct} {e : En} {st : Int}
set_option maxRecDepth 10000 in
set_option maxHeartbeats 2000000 in
theorem open_no (h : Wb w0 w b g sa i j s) (p bt : Nat) (af stp : Int) (hp : p < 10) (hb : bt < 16) (hs : s p = false) :
    Calls Tryz.prog 70 #[.pointer (some ⟨b, 0, none⟩), .agg #[.int .i64 (p : Int), .int .i64 (bt : Int), .int .i64 af, .int .i64 stp]] w fun r w' => r = .returned (.bool (false)) ∧ Below w.heap.size w w' := by
  have HW : Hid (Wb w0 (w.alloc (.cells #[.int .i64 (p : Int), .int .i64 (bt : Int), .int .i64 af, .int .i64 stp] 79)).drew b g sa i j s ∧ (w.alloc (.cells #[.int .i64 (p : Int), .int .i64 (bt : Int), .int .i64 af, .int .i64 stp] 79)).drew.heap[w.heap.size]? = some (.cells #[.int .i64 (p : Int), .int .i64 (bt : Int), .int .i64 af, .int .i64 stp] 79 (0, 0)) ∧ Below w.heap.size w (w.alloc (.cells #[.int .i64 (p : Int), .int .i64 (bt : Int), .int .i64 af, .int .i64 stp] 79)).drew) := ⟨h.next (below_new _).drew, heap_alloc_new _ _, (below_new _).drew⟩
  have hp2 : (p : Int) < 10 := by omega
  have hb2 : (bt : Int) < 16 := by omega
  clear h
  go_enter Tryz.func70, Tryz.ntmps70
  go_upto_region 1 with (fail)
  obtain ⟨ab, hab⟩ : ∃ ab, w.heap.size = ab := ⟨_, rfl⟩
  obtain ⟨wd, hwd⟩ : ∃ wd, wd = w.alloc (.cells #[.int .i64 (p : Int), .int .i64 (bt : Int), .int .i64 af, .int .i64 stp] 79) := ⟨_, rfl⟩
  rw [← hwd, hab] at HW ⊢
  have HAB : Hid (w.heap.size = ab) := hab
  clear hwd hab
  have HS : Hid ((fun W : World => W.cell? ⟨ab, 0, none⟩ = some (.int .i64 (p : Int)) ∧ W.cell? ⟨ab, 1, none⟩ = some (.int .i64 (bt : Int)) ∧ W.cell? ⟨b, 4 + p, none⟩ = some (.bool (s p)) ∧ W.cell? ⟨b, 0, none⟩ = some (.pointer (some ⟨g, 0, none⟩)) ∧ W.cell? ⟨b, 2, none⟩ = some (.int .i64 i) ∧ W.cell? ⟨b, 3, none⟩ = some (.int .i64 j)) wd.drew) := ⟨cell_block HW.out.2.1 0 _ rfl, cell_block HW.out.2.1 1 _ rfl, HW.out.1.cell (4 + p) _ (wk_set _ _ _ _ _ hp), HW.out.1.cell 0 _ rfl, HW.out.1.cell 2 _ rfl, HW.out.1.cell 3 _ rfl⟩
  simp only [hs] at HS
  refine wp_region_Y (fun j => [].contains j) (fun W : World => W.cell? ⟨ab, 0, none⟩ = some (.int .i64 (p : Int)) ∧ W.cell? ⟨ab, 1, none⟩ = some (.int .i64 (bt : Int)) ∧ W.cell? ⟨b, 4 + p, none⟩ = some (.bool (false)) ∧ W.cell? ⟨b, 0, none⟩ = some (.pointer (some ⟨g, 0, none⟩)) ∧ W.cell? ⟨b, 2, none⟩ = some (.int .i64 i) ∧ W.cell? ⟨b, 3, none⟩ = some (.int .i64 j)) (by kernel_rfl) ?_
  refine wpAnyY_pure (i := 0) 5 (v := .pointer (some ⟨b, 0, none⟩)) rfl rfl (by kernel_rfl) (by kernel_rfl) (by kernel_rfl) (fun _ _ _ h => h) (Or.inl ⟨by rfl, by (intro W _; go_simp)⟩) ?_
  simp only [Act.put, List.setIfInBounds_toArray, List.set_cons_succ, List.set_cons_zero]
  refine wpAnyY_pure (i := 1) 6 (v := .pointer (some ⟨ab, 0, none⟩)) rfl rfl (by kernel_rfl) (by kernel_rfl) (by kernel_rfl) (fun _ _ _ h => h) (Or.inl ⟨by rfl, by (intro W _; go_simp)⟩) ?_
  simp only [Act.put, List.setIfInBounds_toArray, List.set_cons_succ, List.set_cons_zero]
  refine wpAnyY_takeD (i := 2) 7 (v := .int .i64 (p : Int)) rfl rfl (by kernel_rfl) (by kernel_rfl) (late_of (by kernel_rfl)) (by kernel_rfl) (by kernel_rfl) (fun _ _ _ h => h) HS.out (Or.inl ⟨by rfl, by (intro W hW; obtain ⟨e0, e1, e2, e3, e4, e5⟩ := hW; go_simp)⟩) ?_
  simp only [Act.put, List.setIfInBounds_toArray, List.set_cons_succ, List.set_cons_zero]
  refine wpAnyY_pure (i := 3) 8 (v := .pointer (some ⟨b, 0, none⟩)) rfl rfl (by kernel_rfl) (by kernel_rfl) (by kernel_rfl) (fun _ _ _ h => h) (Or.inl ⟨by rfl, by (intro W _; go_simp)⟩) ?_
  simp only [Act.put, List.setIfInBounds_toArray, List.set_cons_succ, List.set_cons_zero]
  refine wpAnyY_pure (i := 4) 9 (v := .pointer (some ⟨b, 4, none⟩)) rfl rfl (by kernel_rfl) (by kernel_rfl) (by kernel_rfl) (fun _ _ _ h => h) (Or.inl ⟨by rfl, by (intro W _; go_simp)⟩) ?_
  simp only [Act.put, List.setIfInBounds_toArray, List.set_cons_succ, List.set_cons_zero]
  refine wpAnyY_pure (i := 5) 10 (v := .pointer (some ⟨b, 4 + p, none⟩)) rfl rfl (by kernel_rfl) (by kernel_rfl) (by kernel_rfl) (fun _ _ _ h => h) (Or.inl ⟨by rfl, by (intro W _; go_simp)⟩) ?_
  simp only [Act.put, List.setIfInBounds_toArray, List.set_cons_succ, List.set_cons_zero]
  refine wpAnyY_takeD (i := 6) 11 (v := .bool false) rfl rfl (by kernel_rfl) (by kernel_rfl) (late_of (by kernel_rfl)) (by kernel_rfl) (by kernel_rfl) (fun _ _ _ h => h) HS.out (Or.inl ⟨by rfl, by (intro W hW; obtain ⟨e0, e1, e2, e3, e4, e5⟩ := hW; go_simp)⟩) ?_
  simp only [Act.put, List.setIfInBounds_toArray, List.set_cons_succ, List.set_cons_zero]
  refine wpAnyY_pure (i := 7) 12 (v := .bool false) rfl rfl (by kernel_rfl) (by kernel_rfl) (by kernel_rfl) (fun _ _ _ h => h) (Or.inl ⟨by rfl, by (intro W _; go_simp)⟩) ?_
  simp only [Act.put, List.setIfInBounds_toArray, List.set_cons_succ, List.set_cons_zero]
  refine wpAnyY_pure (i := 8) 13 (v := undef) rfl rfl (by kernel_rfl) (by kernel_rfl) (by kernel_rfl) (fun _ _ _ h => h) (Or.inr ⟨by rfl, rfl⟩) ?_
  simp only [Act.put, List.setIfInBounds_toArray, List.set_cons_succ, List.set_cons_zero]
  refine wpAnyY_pure (i := 9) 14 (v := undef) rfl rfl (by kernel_rfl) (by kernel_rfl) (by kernel_rfl) (fun _ _ _ h => h) (Or.inr ⟨by rfl, rfl⟩) ?_
  simp only [Act.put, List.setIfInBounds_toArray, List.set_cons_succ, List.set_cons_zero]
  refine wpAnyY_pure (i := 10) 15 (v := undef) rfl rfl (by kernel_rfl) (by kernel_rfl) (by kernel_rfl) (fun _ _ _ h => h) (Or.inr ⟨by rfl, rfl⟩) ?_
  simp only [Act.put, List.setIfInBounds_toArray, List.set_cons_succ, List.set_cons_zero]
  refine wpAnyY_pure (i := 11) 16 (v := undef) rfl rfl (by kernel_rfl) (by kernel_rfl) (by kernel_rfl) (fun _ _ _ h => h) (Or.inr ⟨by rfl, rfl⟩) ?_
  simp only [Act.put, List.setIfInBounds_toArray, List.set_cons_succ, List.set_cons_zero]
  refine wpAnyY_pure (i := 12) 17 (v := undef) rfl rfl (by kernel_rfl) (by kernel_rfl) (by kernel_rfl) (fun _ _ _ h => h) (Or.inr ⟨by rfl, rfl⟩) ?_
  simp only [Act.put, List.setIfInBounds_toArray, List.set_cons_succ, List.set_cons_zero]
  refine wpAnyY_pure (i := 13) 18 (v := undef) rfl rfl (by kernel_rfl) (by kernel_rfl) (by kernel_rfl) (fun _ _ _ h => h) (Or.inr ⟨by rfl, rfl⟩) ?_
  simp only [Act.put, List.setIfInBounds_toArray, List.set_cons_succ, List.set_cons_zero]
  refine wpAnyY_pure (i := 14) 19 (v := undef) rfl rfl (by kernel_rfl) (by kernel_rfl) (by kernel_rfl) (fun _ _ _ h => h) (Or.inr ⟨by rfl, rfl⟩) ?_
  simp only [Act.put, List.setIfInBounds_toArray, List.set_cons_succ, List.set_cons_zero]
  refine wpAnyY_pure (i := 15) 20 (v := undef) rfl rfl (by kernel_rfl) (by kernel_rfl) (by kernel_rfl) (fun _ _ _ h => h) (Or.inr ⟨by rfl, rfl⟩) ?_
  simp only [Act.put, List.setIfInBounds_toArray, List.set_cons_succ, List.set_cons_zero]
  refine wpAnyY_pure (i := 16) 21 (v := undef) rfl rfl (by kernel_rfl) (by kernel_rfl) (by kernel_rfl) (fun _ _ _ h => h) (Or.inr ⟨by rfl, rfl⟩) ?_
  simp only [Act.put, List.setIfInBounds_toArray, List.set_cons_succ, List.set_cons_zero]
  refine wpAnyY_pure (i := 17) 22 (v := undef) rfl rfl (by kernel_rfl) (by kernel_rfl) (by kernel_rfl) (fun _ _ _ h => h) (Or.inr ⟨by rfl, rfl⟩) ?_
  simp only [Act.put, List.setIfInBounds_toArray, List.set_cons_succ, List.set_cons_zero]
  refine wpAnyY_pure (i := 18) 23 (v := undef) rfl rfl (by kernel_rfl) (by kernel_rfl) (by kernel_rfl) (fun _ _ _ h => h) (Or.inr ⟨by rfl, rfl⟩) ?_
  simp only [Act.put, List.setIfInBounds_toArray, List.set_cons_succ, List.set_cons_zero]
  refine wpAnyY_pure (i := 19) 24 (v := undef) rfl rfl (by kernel_rfl) (by kernel_rfl) (by kernel_rfl) (fun _ _ _ h => h) (Or.inr ⟨by rfl, rfl⟩) ?_
  simp only [Act.put, List.setIfInBounds_toArray, List.set_cons_succ, List.set_cons_zero]
  refine wpAnyY_pure (i := 20) 25 (v := undef) rfl rfl (by kernel_rfl) (by kernel_rfl) (by kernel_rfl) (fun _ _ _ h => h) (Or.inr ⟨by rfl, rfl⟩) ?_
  simp only [Act.put, List.setIfInBounds_toArray, List.set_cons_succ, List.set_cons_zero]
  refine wpAnyY_pure (i := 21) 26 (v := undef) rfl rfl (by kernel_rfl) (by kernel_rfl) (by kernel_rfl) (fun _ _ _ h => h) (Or.inr ⟨by rfl, rfl⟩) ?_
  simp only [Act.put, List.setIfInBounds_toArray, List.set_cons_succ, List.set_cons_zero]
  refine wpAnyY_pure (i := 22) 27 (v := undef) rfl rfl (by kernel_rfl) (by kernel_rfl) (by kernel_rfl) (fun _ _ _ h => h) (Or.inr ⟨by rfl, rfl⟩) ?_
  simp only [Act.put, List.setIfInBounds_toArray, List.set_cons_succ, List.set_cons_zero]
  refine wpAnyY_pure (i := 23) 28 (v := undef) rfl rfl (by kernel_rfl) (by kernel_rfl) (by kernel_rfl) (fun _ _ _ h => h) (Or.inr ⟨by rfl, rfl⟩) ?_
  simp only [Act.put, List.setIfInBounds_toArray, List.set_cons_succ, List.set_cons_zero]
  refine wpAnyY_pure (i := 24) 29 (v := undef) rfl rfl (by kernel_rfl) (by kernel_rfl) (by kernel_rfl) (fun _ _ _ h => h) (Or.inr ⟨by rfl, rfl⟩) ?_
  simp only [Act.put, List.setIfInBounds_toArray, List.set_cons_succ, List.set_cons_zero]
  refine wpAnyY_pure (i := 25) 30 (v := undef) rfl rfl (by kernel_rfl) (by kernel_rfl) (by kernel_rfl) (fun _ _ _ h => h) (Or.inr ⟨by rfl, rfl⟩) ?_
  simp only [Act.put, List.setIfInBounds_toArray, List.set_cons_succ, List.set_cons_zero]
  refine wpAnyY_pure (i := 26) 31 (v := undef) rfl rfl (by kernel_rfl) (by kernel_rfl) (by kernel_rfl) (fun _ _ _ h => h) (Or.inr ⟨by rfl, rfl⟩) ?_
  simp only [Act.put, List.setIfInBounds_toArray, List.set_cons_succ, List.set_cons_zero]
  refine wpAnyY_pure (i := 27) 32 (v := undef) rfl rfl (by kernel_rfl) (by kernel_rfl) (by kernel_rfl) (fun _ _ _ h => h) (Or.inr ⟨by rfl, rfl⟩) ?_
  simp only [Act.put, List.setIfInBounds_toArray, List.set_cons_succ, List.set_cons_zero]
  refine wpAnyY_pure (i := 28) 33 (v := undef) rfl rfl (by kernel_rfl) (by kernel_rfl) (by kernel_rfl) (fun _ _ _ h => h) (Or.inr ⟨by rfl, rfl⟩) ?_
  simp only [Act.put, List.setIfInBounds_toArray, List.set_cons_succ, List.set_cons_zero]
  refine wpAnyY_pure (i := 29) 34 (v := undef) rfl rfl (by kernel_rfl) (by kernel_rfl) (by kernel_rfl) (fun _ _ _ h => h) (Or.inr ⟨by rfl, rfl⟩) ?_
  simp only [Act.put, List.setIfInBounds_toArray, List.set_cons_succ, List.set_cons_zero]
  refine wpAnyY_pure (i := 30) 35 (v := .bool false) rfl rfl (by kernel_rfl) (by kernel_rfl) (by kernel_rfl) (fun _ _ _ h => h) (Or.inl ⟨by rfl, by (intro W _; go_simp)⟩) ?_
  simp only [Act.put, List.setIfInBounds_toArray, List.set_cons_succ, List.set_cons_zero]
  refine wpAnyY_pure (i := 31) 4 (v := .bool false) rfl rfl (by kernel_rfl) (by kernel_rfl) (by kernel_rfl) (fun _ _ _ h => h) (Or.inl ⟨by rfl, by (intro W _; go_simp)⟩) ?_
  simp only [Act.put, List.setIfInBounds_toArray, List.set_cons_succ, List.set_cons_zero]
  refine wpAnyY_done (by kernel_rfl) ?_ _
  go_wp2
  go_ret
  exact ⟨rfl, by rw [HAB.out]; exact HW.out.2.2⟩
set_option maxRecDepth 10000 in
set_option maxHeartbeats 2000000 in
theorem open_yes (hT : Tb w0 g gs P X Y ta F e st) (h : Wb w0 w b g sa i j s) (p bt : Nat) (af stp : Int) (hp : p < 10) (hb : bt < 16) (hs : s p = true) (hm : okN (atB P X Y F p i j)) :
    Calls Tryz.prog 70 #[.pointer (some ⟨b, 0, none⟩), .agg #[.int .i64 (p : Int), .int .i64 (bt : Int), .int .i64 af, .int .i64 stp]] w fun r w' => r = .returned (.bool ((atB P X Y F p i j).mask.toNat.testBit bt)) ∧ Below w.heap.size w w' := by
  have HW : Hid (Wb w0 (w.alloc (.cells #[.int .i64 (p : Int), .int .i64 (bt : Int), .int .i64 af, .int .i64 stp] 79)).drew b g sa i j s ∧ (w.alloc (.cells #[.int .i64 (p : Int), .int .i64 (bt : Int), .int .i64 af, .int .i64 stp] 79)).drew.heap[w.heap.size]? = some (.cells #[.int .i64 (p : Int), .int .i64 (bt : Int), .int .i64 af, .int .i64 stp] 79 (0, 0)) ∧ Below w.heap.size w (w.alloc (.cells #[.int .i64 (p : Int), .int .i64 (bt : Int), .int .i64 af, .int .i64 stp] 79)).drew) := ⟨h.next (below_new _).drew, heap_alloc_new _ _, (below_new _).drew⟩
  obtain ⟨mk, hmk⟩ : ∃ mk : Nat, (atB P X Y F p i j).mask = mk := ⟨(atB P X Y F p i j).mask.toNat, by have := hm.1; omega⟩
  have hm2 : mk < 65536 := by have := hm.2; omega
  have HM : Hid (∀ W, Below w0.heap.size w0 W → Calls Tryz.prog 93 #[.pointer (some ⟨g, 0, none⟩), .int .i64 (p : Int), .int .i64 i, .int .i64 j] W fun r w' => r = .returned (.int .i64 (mk : Int)) ∧ Below W.heap.size W w') := fun W hW => by rw [← hmk]; exact mask_calls (hT.next hW) p i j hm
  rw [hmk, Int.toNat_natCast]
  have HB : Hid ((bits .and .i64 ((mk : Int) / 2 ^ bt) 1 == 1) = mk.testBit bt) := tst_one hm2
  clear hmk hm
  have hp2 : (p : Int) < 10 := by omega
  have hb2 : (bt : Int) < 16 := by omega
  clear h hT
  go_enter Tryz.func70, Tryz.ntmps70
  go_upto_region 1 with (fail)
  obtain ⟨ab, hab⟩ : ∃ ab, w.heap.size = ab := ⟨_, rfl⟩
  obtain ⟨wd, hwd⟩ : ∃ wd, wd = w.alloc (.cells #[.int .i64 (p : Int), .int .i64 (bt : Int), .int .i64 af, .int .i64 stp] 79) := ⟨_, rfl⟩
  rw [← hwd, hab] at HW ⊢
  have HAB : Hid (w.heap.size = ab) := hab
  clear hwd hab
  have HS : Hid ((fun W : World => W.cell? ⟨ab, 0, none⟩ = some (.int .i64 (p : Int)) ∧ W.cell? ⟨ab, 1, none⟩ = some (.int .i64 (bt : Int)) ∧ W.cell? ⟨b, 4 + p, none⟩ = some (.bool (s p)) ∧ W.cell? ⟨b, 0, none⟩ = some (.pointer (some ⟨g, 0, none⟩)) ∧ W.cell? ⟨b, 2, none⟩ = some (.int .i64 i) ∧ W.cell? ⟨b, 3, none⟩ = some (.int .i64 j)) wd.drew) := ⟨cell_block HW.out.2.1 0 _ rfl, cell_block HW.out.2.1 1 _ rfl, HW.out.1.cell (4 + p) _ (wk_set _ _ _ _ _ hp), HW.out.1.cell 0 _ rfl, HW.out.1.cell 2 _ rfl, HW.out.1.cell 3 _ rfl⟩
  simp only [hs] at HS
  refine wp_region_Y (fun j => [].contains j) (fun W : World => W.cell? ⟨ab, 0, none⟩ = some (.int .i64 (p : Int)) ∧ W.cell? ⟨ab, 1, none⟩ = some (.int .i64 (bt : Int)) ∧ W.cell? ⟨b, 4 + p, none⟩ = some (.bool (true)) ∧ W.cell? ⟨b, 0, none⟩ = some (.pointer (some ⟨g, 0, none⟩)) ∧ W.cell? ⟨b, 2, none⟩ = some (.int .i64 i) ∧ W.cell? ⟨b, 3, none⟩ = some (.int .i64 j)) (by kernel_rfl) ?_
  refine wpAnyY_pure (i := 0) 5 (v := .pointer (some ⟨b, 0, none⟩)) rfl rfl (by kernel_rfl) (by kernel_rfl) (by kernel_rfl) (fun _ _ _ h => h) (Or.inl ⟨by rfl, by (intro W _; go_simp)⟩) ?_
  simp only [Act.put, List.setIfInBounds_toArray, List.set_cons_succ, List.set_cons_zero]
  refine wpAnyY_pure (i := 1) 6 (v := .pointer (some ⟨ab, 0, none⟩)) rfl rfl (by kernel_rfl) (by kernel_rfl) (by kernel_rfl) (fun _ _ _ h => h) (Or.inl ⟨by rfl, by (intro W _; go_simp)⟩) ?_
  simp only [Act.put, List.setIfInBounds_toArray, List.set_cons_succ, List.set_cons_zero]
  refine wpAnyY_takeD (i := 2) 7 (v := .int .i64 (p : Int)) rfl rfl (by kernel_rfl) (by kernel_rfl) (late_of (by kernel_rfl)) (by kernel_rfl) (by kernel_rfl) (fun _ _ _ h => h) HS.out (Or.inl ⟨by rfl, by (intro W hW; obtain ⟨e0, e1, e2, e3, e4, e5⟩ := hW; go_simp)⟩) ?_
  simp only [Act.put, List.setIfInBounds_toArray, List.set_cons_succ, List.set_cons_zero]
  refine wpAnyY_pure (i := 3) 8 (v := .pointer (some ⟨b, 0, none⟩)) rfl rfl (by kernel_rfl) (by kernel_rfl) (by kernel_rfl) (fun _ _ _ h => h) (Or.inl ⟨by rfl, by (intro W _; go_simp)⟩) ?_
  simp only [Act.put, List.setIfInBounds_toArray, List.set_cons_succ, List.set_cons_zero]
  refine wpAnyY_pure (i := 4) 9 (v := .pointer (some ⟨b, 4, none⟩)) rfl rfl (by kernel_rfl) (by kernel_rfl) (by kernel_rfl) (fun _ _ _ h => h) (Or.inl ⟨by rfl, by (intro W _; go_simp)⟩) ?_
  simp only [Act.put, List.setIfInBounds_toArray, List.set_cons_succ, List.set_cons_zero]
  refine wpAnyY_pure (i := 5) 10 (v := .pointer (some ⟨b, 4 + p, none⟩)) rfl rfl (by kernel_rfl) (by kernel_rfl) (by kernel_rfl) (fun _ _ _ h => h) (Or.inl ⟨by rfl, by (intro W _; go_simp)⟩) ?_
  simp only [Act.put, List.setIfInBounds_toArray, List.set_cons_succ, List.set_cons_zero]
  refine wpAnyY_takeD (i := 6) 11 (v := .bool true) rfl rfl (by kernel_rfl) (by kernel_rfl) (late_of (by kernel_rfl)) (by kernel_rfl) (by kernel_rfl) (fun _ _ _ h => h) HS.out (Or.inl ⟨by rfl, by (intro W hW; obtain ⟨e0, e1, e2, e3, e4, e5⟩ := hW; go_simp)⟩) ?_
  simp only [Act.put, List.setIfInBounds_toArray, List.set_cons_succ, List.set_cons_zero]
  refine wpAnyY_pure (i := 7) 12 (v := .bool true) rfl rfl (by kernel_rfl) (by kernel_rfl) (by kernel_rfl) (fun _ _ _ h => h) (Or.inl ⟨by rfl, by (intro W _; go_simp)⟩) ?_
  simp only [Act.put, List.setIfInBounds_toArray, List.set_cons_succ, List.set_cons_zero]
  refine wpAnyY_pure (i := 8) 13 (v := .pointer (some ⟨b, 0, none⟩)) rfl rfl (by kernel_rfl) (by kernel_rfl) (by kernel_rfl) (fun _ _ _ h => h) (Or.inl ⟨by rfl, by (intro W _; go_simp)⟩) ?_
  simp only [Act.put, List.setIfInBounds_toArray, List.set_cons_succ, List.set_cons_zero]
  refine wpAnyY_pure (i := 9) 14 (v := .pointer (some ⟨b, 0, none⟩)) rfl rfl (by kernel_rfl) (by kernel_rfl) (by kernel_rfl) (fun _ _ _ h => h) (Or.inl ⟨by rfl, by (intro W _; go_simp)⟩) ?_
  simp only [Act.put, List.setIfInBounds_toArray, List.set_cons_succ, List.set_cons_zero]
  refine wpAnyY_pure (i := 10) 15 (v := .pointer (some ⟨b, 0, none⟩)) rfl rfl (by kernel_rfl) (by kernel_rfl) (by kernel_rfl) (fun _ _ _ h => h) (Or.inl ⟨by rfl, by (intro W _; go_simp)⟩) ?_
  simp only [Act.put, List.setIfInBounds_toArray, List.set_cons_succ, List.set_cons_zero]
  refine wpAnyY_takeD (i := 11) 16 (v := .pointer (some ⟨g, 0, none⟩)) rfl rfl (by kernel_rfl) (by kernel_rfl) (late_of (by kernel_rfl)) (by kernel_rfl) (by kernel_rfl) (fun _ _ _ h => h) HS.out (Or.inl ⟨by rfl, by (intro W hW; obtain ⟨e0, e1, e2, e3, e4, e5⟩ := hW; go_simp)⟩) ?_
  simp only [Act.put, List.setIfInBounds_toArray, List.set_cons_succ, List.set_cons_zero]
  refine wpAnyY_pure (i := 12) 17 (v := .pointer (some ⟨g, 0, none⟩)) rfl rfl (by kernel_rfl) (by kernel_rfl) (by kernel_rfl) (fun _ _ _ h => h) (Or.inl ⟨by rfl, by (intro W _; go_simp)⟩) ?_
  simp only [Act.put, List.setIfInBounds_toArray, List.set_cons_succ, List.set_cons_zero]
  refine wpAnyY_pure (i := 13) 18 (v := .pointer (some ⟨g, 0, none⟩)) rfl rfl (by kernel_rfl) (by kernel_rfl) (by kernel_rfl) (fun _ _ _ h => h) (Or.inl ⟨by rfl, by (intro W _; go_simp)⟩) ?_
  simp only [Act.put, List.setIfInBounds_toArray, List.set_cons_succ, List.set_cons_zero]
  refine wpAnyY_pure (i := 14) 19 (v := .pointer (some ⟨ab, 0, none⟩)) rfl rfl (by kernel_rfl) (by kernel_rfl) (by kernel_rfl) (fun _ _ _ h => h) (Or.inl ⟨by rfl, by (intro W _; go_simp)⟩) ?_
  simp only [Act.put, List.setIfInBounds_toArray, List.set_cons_succ, List.set_cons_zero]
  refine wpAnyY_takeD (i := 15) 20 (v := .int .i64 (p : Int)) rfl rfl (by kernel_rfl) (by kernel_rfl) (late_of (by kernel_rfl)) (by kernel_rfl) (by kernel_rfl) (fun _ _ _ h => h) HS.out (Or.inl ⟨by rfl, by (intro W hW; obtain ⟨e0, e1, e2, e3, e4, e5⟩ := hW; go_simp)⟩) ?_
  simp only [Act.put, List.setIfInBounds_toArray, List.set_cons_succ, List.set_cons_zero]
  refine wpAnyY_pure (i := 16) 21 (v := .pointer (some ⟨b, 0, none⟩)) rfl rfl (by kernel_rfl) (by kernel_rfl) (by kernel_rfl) (fun _ _ _ h => h) (Or.inl ⟨by rfl, by (intro W _; go_simp)⟩) ?_
  simp only [Act.put, List.setIfInBounds_toArray, List.set_cons_succ, List.set_cons_zero]
  refine wpAnyY_pure (i := 17) 22 (v := .pointer (some ⟨b, 0, none⟩)) rfl rfl (by kernel_rfl) (by kernel_rfl) (by kernel_rfl) (fun _ _ _ h => h) (Or.inl ⟨by rfl, by (intro W _; go_simp)⟩) ?_
  simp only [Act.put, List.setIfInBounds_toArray, List.set_cons_succ, List.set_cons_zero]
  refine wpAnyY_pure (i := 18) 23 (v := .pointer (some ⟨b, 2, none⟩)) rfl rfl (by kernel_rfl) (by kernel_rfl) (by kernel_rfl) (fun _ _ _ h => h) (Or.inl ⟨by rfl, by (intro W _; go_simp)⟩) ?_
  simp only [Act.put, List.setIfInBounds_toArray, List.set_cons_succ, List.set_cons_zero]
  refine wpAnyY_takeD (i := 19) 24 (v := .int .i64 i) rfl rfl (by kernel_rfl) (by kernel_rfl) (late_of (by kernel_rfl)) (by kernel_rfl) (by kernel_rfl) (fun _ _ _ h => h) HS.out (Or.inl ⟨by rfl, by (intro W hW; obtain ⟨e0, e1, e2, e3, e4, e5⟩ := hW; go_simp)⟩) ?_
  simp only [Act.put, List.setIfInBounds_toArray, List.set_cons_succ, List.set_cons_zero]
  refine wpAnyY_pure (i := 20) 25 (v := .pointer (some ⟨b, 0, none⟩)) rfl rfl (by kernel_rfl) (by kernel_rfl) (by kernel_rfl) (fun _ _ _ h => h) (Or.inl ⟨by rfl, by (intro W _; go_simp)⟩) ?_
  simp only [Act.put, List.setIfInBounds_toArray, List.set_cons_succ, List.set_cons_zero]
  refine wpAnyY_pure (i := 21) 26 (v := .pointer (some ⟨b, 0, none⟩)) rfl rfl (by kernel_rfl) (by kernel_rfl) (by kernel_rfl) (fun _ _ _ h => h) (Or.inl ⟨by rfl, by (intro W _; go_simp)⟩) ?_
  simp only [Act.put, List.setIfInBounds_toArray, List.set_cons_succ, List.set_cons_zero]
  refine wpAnyY_pure (i := 22) 27 (v := .pointer (some ⟨b, 3, none⟩)) rfl rfl (by kernel_rfl) (by kernel_rfl) (by kernel_rfl) (fun _ _ _ h => h) (Or.inl ⟨by rfl, by (intro W _; go_simp)⟩) ?_
  simp only [Act.put, List.setIfInBounds_toArray, List.set_cons_succ, List.set_cons_zero]
  refine wpAnyY_takeD (i := 23) 28 (v := .int .i64 j) rfl rfl (by kernel_rfl) (by kernel_rfl) (late_of (by kernel_rfl)) (by kernel_rfl) (by kernel_rfl) (fun _ _ _ h => h) HS.out (Or.inl ⟨by rfl, by (intro W hW; obtain ⟨e0, e1, e2, e3, e4, e5⟩ := hW; go_simp)⟩) ?_
  simp only [Act.put, List.setIfInBounds_toArray, List.set_cons_succ, List.set_cons_zero]
  refine wpAnyY_pure (i := 25) 30 (v := .pointer (some ⟨ab, 1, none⟩)) rfl rfl (by kernel_rfl) (by kernel_rfl) (by kernel_rfl) (fun _ _ _ h => h) (Or.inl ⟨by rfl, by (intro W _; go_simp)⟩) ?_
  simp only [Act.put, List.setIfInBounds_toArray, List.set_cons_succ, List.set_cons_zero]
  refine wpAnyY_takeD (i := 26) 31 (v := .int .i64 (bt : Int)) rfl rfl (by kernel_rfl) (by kernel_rfl) (late_of (by kernel_rfl)) (by kernel_rfl) (by kernel_rfl) (fun _ _ _ h => h) HS.out (Or.inl ⟨by rfl, by (intro W hW; obtain ⟨e0, e1, e2, e3, e4, e5⟩ := hW; go_simp)⟩) ?_
  simp only [Act.put, List.setIfInBounds_toArray, List.set_cons_succ, List.set_cons_zero]
  refine wpAnyY_one (i := 24) rfl (by kernel_rfl) (fun Kc hKc => ?_)
  refine step_fnD 29 rfl (by rfl) 93 _ _ rfl Tryz.f93 Tryz.func93 (by kernel_rfl) (by kernel_rfl) #[.pointer (some ⟨g, 0, none⟩), .int .i64 (p : Int), .int .i64 i, .int .i64 j] (by simp [Act.eval]) (HM.out _ HW.out.1.low) ?_
  rintro e w1 ⟨rfl, hb1⟩
  refine ⟨_, rfl, hKc.out _ _ (fun _ h => ⟨cell_bl hb1 h.1, cell_bl hb1 h.2.1, cell_bl hb1 h.2.2.1, cell_bl hb1 h.2.2.2.1, cell_bl hb1 h.2.2.2.2.1, cell_bl hb1 h.2.2.2.2.2⟩) ?_⟩
  clear hKc Kc
  simp only [Act.put, List.setIfInBounds_toArray, List.set_cons_succ, List.set_cons_zero]
  have HE : Hid (Below ab w w1) := HW.out.2.2.trans (hb1.mono (by have h1 := HW.out.2.2.size; have h2 := HAB.out; omega))
  clear hb1 HS HW HM
  refine wpAnyY_pure (i := 27) 32 (v := .int .i64 ((mk : Int) / 2 ^ bt)) rfl rfl (by kernel_rfl) (by kernel_rfl) (by kernel_rfl) (fun _ _ _ h => h) (Or.inl ⟨by rfl, by (intro W _; go_simp)⟩) ?_
  simp only [Act.put, List.setIfInBounds_toArray, List.set_cons_succ, List.set_cons_zero]
  refine wpAnyY_pure (i := 28) 33 (v := .int .i64 (bits .and .i64 ((mk : Int) / 2 ^ bt) 1)) rfl rfl (by kernel_rfl) (by kernel_rfl) (by kernel_rfl) (fun _ _ _ h => h) (Or.inl ⟨by rfl, by (intro W _; go_simp)⟩) ?_
  simp only [Act.put, List.setIfInBounds_toArray, List.set_cons_succ, List.set_cons_zero]
  refine wpAnyY_pure (i := 29) 34 (v := .bool (bits .and .i64 ((mk : Int) / 2 ^ bt) 1 == 1)) rfl rfl (by kernel_rfl) (by kernel_rfl) (by kernel_rfl) (fun _ _ _ h => h) (Or.inl ⟨by rfl, by (intro W _; go_simp)⟩) ?_
  simp only [Act.put, List.setIfInBounds_toArray, List.set_cons_succ, List.set_cons_zero]
  refine wpAnyY_pure (i := 30) 35 (v := .bool (bits .and .i64 ((mk : Int) / 2 ^ bt) 1 == 1)) rfl rfl (by kernel_rfl) (by kernel_rfl) (by kernel_rfl) (fun _ _ _ h => h) (Or.inl ⟨by rfl, by (intro W _; go_simp)⟩) ?_
  simp only [Act.put, List.setIfInBounds_toArray, List.set_cons_succ, List.set_cons_zero]
  rw [HB.out]
  refine wpAnyY_pure (i := 31) 4 (v := .bool (mk.testBit bt)) rfl rfl (by kernel_rfl) (by kernel_rfl) (by kernel_rfl) (fun _ _ _ h => h) (Or.inl ⟨by rfl, by (intro W _; go_simp)⟩) ?_
  simp only [Act.put, List.setIfInBounds_toArray, List.set_cons_succ, List.set_cons_zero]
  refine wpAnyY_done (by kernel_rfl) ?_ _
  go_wp2
  go_ret
  exact ⟨rfl, by rw [HAB.out]; exact HE.out⟩
end
end Go.Proofs.YtnkfibahkmmnpaaGreat
namespace Go.Proofs.YtnkfibahkmmnpaaGreat
open Go.RowKit

section
variable {w0 w w2 : World} {b g gs P X Y : Nat} {sa ta : Sl} {i j : Int} {s : Nat → Bool} {F : Nat → Ct} {e : En} {st : Int}
def msk (P X Y : Nat) (F : Nat → Ct) (i j : Int) : Int → Nat := fun p => (atB P X Y F p i j).mask.toNat
theorem open_calls (hT : Tb w0 g gs P X Y ta F e st) (h : Wb w0 w b g sa i j s) (hm : ∀ p, okN (atB P X Y F p i j)) (a0 a1 a2 a3 : Int) (h0 : 0 ≤ a0 ∧ a0 < 10) (h1 : 0 ≤ a1 ∧ a1 ≤ 15) :
    Calls Tryz.prog 70 #[.pointer (some ⟨b, 0, none⟩), .agg #[.int .i64 a0, .int .i64 a1, .int .i64 a2, .int .i64 a3]] w fun r w' => r = .returned (.bool (openB (msk P X Y F i j) s (a0, a1, a2, a3))) ∧ Below w.heap.size w w' := by
  obtain ⟨p, hp⟩ : ∃ p : Nat, a0 = p := ⟨a0.toNat, by omega⟩
  obtain ⟨t, ht⟩ : ∃ t : Nat, a1 = t := ⟨a1.toNat, by omega⟩
  subst hp
  subst ht
  unfold openB
  simp only [Int.toNat_natCast]
  cases hs : s p with
  | false =>
    refine (open_no (i := i) (j := j) h p t a2 a3 (by omega) (by omega) hs).mono ?_
    rintro r w' ⟨rfl, hb⟩
    exact ⟨rfl, hb⟩
  | true =>
    refine (open_yes hT h p t a2 a3 (by omega) (by omega) hs (hm p)).mono ?_
    rintro r w' ⟨rfl, hb⟩
    exact ⟨rfl, hb⟩
/-- What is kept while the arrows are gone through. -/
structure Lt (w0 w W : World) (b g : Nat) (sa : Sl) (i j : Int) (s r : Nat → Bool) : Prop where
  wb : Wb w0 W b g sa i j s
  res : W.heap[w.heap.size]? = some (.cells (setC fun _ => false) 70 (0, 0))
  fr : W.heap[w.heap.size + 1]? = some (.cells (setC r) 70 (0, 0))
  low : Below w.heap.size w W
theorem Lt.next {W V : World} {r : Nat → Bool} (h : Lt w0 w W b g sa i j s r) (hb : Below W.heap.size W V) : Lt w0 w V b g sa i j s r :=
  ⟨h.wb.next hb, by rw [hb.block _ (lt_block h.res)]; exact h.res, by rw [hb.block _ (lt_block h.fr)]; exact h.fr, h.low.trans (hb.mono h.low.size)⟩
theorem Lt.wbput {W : World} {r : Nat → Bool} (h : Lt w0 w W b g sa i j s r) (hl : b < w.heap.size) (k : Nat) (v : Value) : Wb w0 (W.setCell ⟨w.heap.size + 1, k, none⟩ v) b g sa i j s :=
  ⟨by rw [Below.heap_setCell _ _ _ _ (by show b ≠ w.heap.size + 1; omega)]; exact h.wb.box, h.wb.low.setCell (p := ⟨w.heap.size + 1, k, none⟩) (by have := h.wb.le; show w0.heap.size ≤ w.heap.size + 1; omega) _, h.wb.le⟩
theorem Lt.put {W : World} {r : Nat → Bool} (h : Lt w0 w W b g sa i j s r) (hl : b < w.heap.size) {p : Nat} (hp : p < 10) : Lt w0 w (W.setCell ⟨w.heap.size + 1, p, none⟩ (.bool true)) b g sa i j s (putP r p) :=
  ⟨h.wbput hl _ _, by rw [Below.heap_setCell _ _ _ _ (by show w.heap.size ≠ w.heap.size + 1; omega)]; exact h.res, by rw [heap_setCell_same _ _ _ _ _ _ h.fr, setC_put _ hp], h.low.setCell (p := ⟨w.heap.size + 1, p, none⟩) (by show w.heap.size ≤ w.heap.size + 1; omega) _⟩
def offP (s : Nat → Bool) (p : Nat) : Nat → Bool := fun q => if q = p then false else s q
theorem setC_off (s : Nat → Bool) {p : Nat} (hp : p < 10) : (setC s).setIfInBounds p (.bool false) = setC (offP s p) := by
  have : p = 0 ∨ p = 1 ∨ p = 2 ∨ p = 3 ∨ p = 4 ∨ p = 5 ∨ p = 6 ∨ p = 7 ∨ p = 8 ∨ p = 9 := by omega
  rcases this with rfl | rfl | rfl | rfl | rfl | rfl | rfl | rfl | rfl | rfl <;> rfl
theorem off_all (r : Nat → Bool) : setC (offP (offP (offP (offP (offP (offP (offP (offP (offP (offP r 0) 1) 2) 3) 4) 5) 6) 7) 8) 9) = setC (fun _ => false) := rfl
def zeroed (W : World) (t : Nat) : World := ((((((((((W.setCell ⟨t, 0, none⟩ (.bool false)).setCell ⟨t, 1, none⟩ (.bool false)).setCell ⟨t, 2, none⟩ (.bool false)).setCell ⟨t, 3, none⟩ (.bool false)).setCell ⟨t, 4, none⟩ (.bool false)).setCell ⟨t, 5, none⟩ (.bool false)).setCell ⟨t, 6, none⟩ (.bool false)).setCell ⟨t, 7, none⟩ (.bool false)).setCell ⟨t, 8, none⟩ (.bool false)).setCell ⟨t, 9, none⟩ (.bool false))
theorem Lt.zero {W : World} {r : Nat → Bool} (h : Lt w0 w W b g sa i j s r) (hl : b < w.heap.size) : Lt w0 w (zeroed W (w.heap.size + 1)) b g sa i j s (fun _ => false) := by
  have key : ∀ (W : World) (k : Nat) (A : Nat → Bool), k < 10 → Wb w0 W b g sa i j s → W.heap[w.heap.size]? = some (.cells (setC fun _ => false) 70 (0, 0)) → W.heap[w.heap.size + 1]? = some (.cells (setC A) 70 (0, 0)) → Below w.heap.size w W →
      Wb w0 (W.setCell ⟨w.heap.size + 1, k, none⟩ (.bool false)) b g sa i j s ∧ (W.setCell ⟨w.heap.size + 1, k, none⟩ (.bool false)).heap[w.heap.size]? = some (.cells (setC fun _ => false) 70 (0, 0)) ∧ (W.setCell ⟨w.heap.size + 1, k, none⟩ (.bool false)).heap[w.heap.size + 1]? = some (.cells (setC (offP A k)) 70 (0, 0)) ∧ Below w.heap.size w (W.setCell ⟨w.heap.size + 1, k, none⟩ (.bool false)) := by
    intro W k A hk h1 h2 h3 h4
    exact ⟨⟨by rw [Below.heap_setCell _ _ _ _ (by show b ≠ w.heap.size + 1; omega)]; exact h1.box, h1.low.setCell (p := ⟨w.heap.size + 1, k, none⟩) (by have := h1.le; show w0.heap.size ≤ w.heap.size + 1; omega) _, h1.le⟩, by rw [Below.heap_setCell _ _ _ _ (by show w.heap.size ≠ w.heap.size + 1; omega)]; exact h2, by rw [heap_setCell_same _ _ _ _ _ _ h3, setC_off _ hk], h4.setCell (p := ⟨w.heap.size + 1, k, none⟩) (by show w.heap.size ≤ w.heap.size + 1; omega) _⟩
  have z0 := key _ 0 _ (by omega) h.wb h.res h.fr h.low
  have z1 := key _ 1 _ (by omega) z0.1 z0.2.1 z0.2.2.1 z0.2.2.2
  have z2 := key _ 2 _ (by omega) z1.1 z1.2.1 z1.2.2.1 z1.2.2.2
  have z3 := key _ 3 _ (by omega) z2.1 z2.2.1 z2.2.2.1 z2.2.2.2
  have z4 := key _ 4 _ (by omega) z3.1 z3.2.1 z3.2.2.1 z3.2.2.2
  have z5 := key _ 5 _ (by omega) z4.1 z4.2.1 z4.2.2.1 z4.2.2.2
  have z6 := key _ 6 _ (by omega) z5.1 z5.2.1 z5.2.2.1 z5.2.2.2
  have z7 := key _ 7 _ (by omega) z6.1 z6.2.1 z6.2.2.1 z6.2.2.2
  have z8 := key _ 8 _ (by omega) z7.1 z7.2.1 z7.2.2.1 z7.2.2.2
  have z9 := key _ 9 _ (by omega) z8.1 z8.2.1 z8.2.2.1 z8.2.2.2
  refine ⟨z9.1, z9.2.1, ?_, z9.2.2.2⟩
  have z := z9.2.2.1
  clear z0 z1 z2 z3 z4 z5 z6 z7 z8 z9 key
  rw [off_all] at z
  exact z
theorem leastB_snoc (m : Int → Nat) (s : Nat → Bool) (l : List Qd) (a : Qd) : leastB m s (l ++ [a]) = leastS m s (leastB m s l) a := by unfold leastB; rw [List.foldl_append]; rfl
set_option maxRecDepth 10000 in
set_option maxHeartbeats 2000000 in
theorem least_calls (hT : Tb w0 g gs P X Y ta F e st) (h : Wb w0 w b g sa i j s) (l : List Qd) (hq : QdsAt w sa.a sa.n l) (hm : ∀ p, okN (atB P X Y F p i j))
    (hl : ∀ a ∈ l, (0 ≤ a.1 ∧ a.1 < 10) ∧ (0 ≤ a.2.1 ∧ a.2.1 ≤ 15) ∧ (0 ≤ a.2.2.1 ∧ a.2.2.1 < 10) ∧ (1 ≤ a.2.2.2 ∧ a.2.2.2 ≤ 3)) :
    Calls Tryz.prog 42 #[.pointer (some ⟨b, 0, none⟩)] w fun r w' => r = .returned (.tuple #[.int .i64 (leastB (msk P X Y F i j) s l).1, .agg (setC (leastB (msk P X Y F i j) s l).2)]) ∧ Below w.heap.size w w' := by
  have hres : Tryz.f42.results = #[.tmp 2, .cell 3 70] := by kernel_rfl
  have hlt := lt_block h.box
  have c1 := h.cell 1 (.slice sa.a sa.n sa.c) rfl
  have hsh := hq.short
  have hln := hq.length
  unfold maxLen at hsh
  have HQ : Hid (QdsAt w sa.a sa.n l ∧ ∀ a ∈ l, (0 ≤ a.1 ∧ a.1 < 10) ∧ (0 ≤ a.2.1 ∧ a.2.1 ≤ 15) ∧ (0 ≤ a.2.2.1 ∧ a.2.2.1 < 10) ∧ (1 ≤ a.2.2.2 ∧ a.2.2.2 ≤ 3)) := ⟨hq, hl⟩
  have HO : Hid (∀ W, Wb w0 W b g sa i j s → ∀ a0 a1 a2 a3 : Int, 0 ≤ a0 ∧ a0 < 10 → 0 ≤ a1 ∧ a1 ≤ 15 → Calls Tryz.prog 70 #[.pointer (some ⟨b, 0, none⟩), .agg #[.int .i64 a0, .int .i64 a1, .int .i64 a2, .int .i64 a3]] W fun r w' => r = .returned (.bool (openB (msk P X Y F i j) s (a0, a1, a2, a3))) ∧ Below W.heap.size W w') := fun W hW a0 a1 a2 a3 h0 h1 => open_calls hT hW hm a0 a1 a2 a3 h0 h1
  have H0 : Hid (Lt w0 w ((w.alloc (.cells #[.bool false, .bool false, .bool false, .bool false, .bool false, .bool false, .bool false, .bool false, .bool false, .bool false] 70)).alloc (.cells #[.bool false, .bool false, .bool false, .bool false, .bool false, .bool false, .bool false, .bool false, .bool false, .bool false] 70)) b g sa i j s (fun _ => false)) := by
    refine ⟨h.next ((below_new _).alloc (by simp) _), ?_, ?_, (below_new _).alloc (by simp) _⟩
    · rw [(below_new _).block _ (by simp)]; exact heap_alloc_new _ _
    · have : (w.alloc (.cells #[.bool false, .bool false, .bool false, .bool false, .bool false, .bool false, .bool false, .bool false, .bool false, .bool false] 70)).heap.size = w.heap.size + 1 := by simp
      rw [← this]; exact heap_alloc_new _ _
  obtain ⟨m, hmm⟩ : ∃ m, msk P X Y F i j = m := ⟨_, rfl⟩
  rw [hmm] at HO ⊢
  obtain ⟨n, hn⟩ : ∃ n, sa.n = n := ⟨_, rfl⟩
  have HN : Hid (l.length = n) := by show _ = _; rw [hln, hn]
  obtain ⟨sa0, san, sac⟩ := sa
  simp only at hn c1 hsh
  subst hn
  have HR0 : Hid (leastB m s [] = (3, fun _ => false)) := rfl
  clear h hq hl hm hmm hT hln
  go_enter Tryz.func42, Tryz.ntmps42
  go_wp2
  have hsz : ((w.alloc (.cells #[.bool false, .bool false, .bool false, .bool false, .bool false, .bool false, .bool false, .bool false, .bool false, .bool false] 70)).alloc (.cells #[.bool false, .bool false, .bool false, .bool false, .bool false, .bool false, .bool false, .bool false, .bool false, .bool false] 70)).heap.size = w.heap.size + 1 + 1 := by simp
  generalize ((w.alloc (.cells #[.bool false, .bool false, .bool false, .bool false, .bool false, .bool false, .bool false, .bool false, .bool false, .bool false] 70)).alloc (.cells #[.bool false, .bool false, .bool false, .bool false, .bool false, .bool false, .bool false, .bool false, .bool false, .bool false] 70)) = wA at *
  clear hsz c1
  go_loopg [4, 7, 14] san (fun q sv _ iv wr => ∃ k : Nat, k + q = san ∧ iv = .int .i64 k ∧ sv = .int .i64 (leastB m s (l.take k)).1 ∧ Hid (Lt w0 w wr b g ⟨sa0, san, sac⟩ i j s (leastB m s (l.take k)).2))
  case atStart =>
    refine ⟨0, by omega, rfl, ?_, ?_⟩
    · rw [List.take_zero, HR0.out]
    · rw [List.take_zero, HR0.out]; exact H0
  case round =>
    clear H0
    obtain ⟨k, hkq, rfl, rfl, HP⟩ := hrel
    by_cases hk : k < san
    rotate_left
    · have hd : decide ((k : Int) < (san : Int)) = false := decide_eq_false (by omega)
      have hkn : k = san := by omega
      subst hkn
      have hlt2 : l.take k = l := by rw [← HN.out]; exact List.take_length
      rw [hlt2] at HP ⊢
      clear hlt2
      obtain ⟨R, hR⟩ : ∃ R, leastB m s l = R := ⟨_, rfl⟩
      have HR : Hid (leastB m s l = R) := hR
      rw [hR] at HP ⊢
      clear hR
      obtain ⟨rs, S⟩ := R
      simp only at HP ⊢
      have c0 := cell_block HP.out.fr 0 (.bool (S 0)) rfl
      have c1 := cell_block HP.out.fr 1 (.bool (S 1)) rfl
      have c2 := cell_block HP.out.fr 2 (.bool (S 2)) rfl
      have c3 := cell_block HP.out.fr 3 (.bool (S 3)) rfl
      have c4 := cell_block HP.out.fr 4 (.bool (S 4)) rfl
      have c5 := cell_block HP.out.fr 5 (.bool (S 5)) rfl
      have c6 := cell_block HP.out.fr 6 (.bool (S 6)) rfl
      have c7 := cell_block HP.out.fr 7 (.bool (S 7)) rfl
      have c8 := cell_block HP.out.fr 8 (.bool (S 8)) rfl
      have c9 := cell_block HP.out.fr 9 (.bool (S 9)) rfl
      have rf : ∀ k, wr.frozen? ⟨w.heap.size, k, none⟩ = false := fun k => frozen_of_row _ _ k _ _ HP.out.res
      have d0 := cell_block HP.out.res 0 (.bool false) rfl
      have d1 := cell_block HP.out.res 1 (.bool false) rfl
      have d2 := cell_block HP.out.res 2 (.bool false) rfl
      have d3 := cell_block HP.out.res 3 (.bool false) rfl
      have d4 := cell_block HP.out.res 4 (.bool false) rfl
      have d5 := cell_block HP.out.res 5 (.bool false) rfl
      have d6 := cell_block HP.out.res 6 (.bool false) rfl
      have d7 := cell_block HP.out.res 7 (.bool false) rfl
      have d8 := cell_block HP.out.res 8 (.bool false) rfl
      have d9 := cell_block HP.out.res 9 (.bool false) rfl
      have HF : Hid (Below w.heap.size w wr) := HP.out.low
      have HX : Hid (∀ W : World, Below w.heap.size w W → Ending.returned (.tuple #[.int .i64 rs, .agg #[.bool (S 0), .bool (S 1), .bool (S 2), .bool (S 3), .bool (S 4), .bool (S 5), .bool (S 6), .bool (S 7), .bool (S 8), .bool (S 9)]]) = .returned (.tuple #[.int .i64 (leastB m s l).1, .agg (setC (leastB m s l).2)]) ∧ Below w.heap.size w W) := fun W hW => ⟨by rw [HR.out]; rfl, hW⟩
      clear HP HQ HO HN HR0
      go_wp2
      go_region
      go_wp2
      refine bodyPost_ret (v := .tuple #[.int .i64 rs, .agg #[.bool (S 0), .bool (S 1), .bool (S 2), .bool (S 3), .bool (S 4), .bool (S 5), .bool (S 6), .bool (S 7), .bool (S 8), .bool (S 9)]]) ?_ rfl (HX.out _ ?_)
      · simp only [results, hres]
        go_simp
      · exact ((((((((((HF.out.setCell (p := ⟨w.heap.size, 0, none⟩) (Nat.le_refl _) _).setCell (p := ⟨w.heap.size, 1, none⟩) (Nat.le_refl _) _).setCell (p := ⟨w.heap.size, 2, none⟩) (Nat.le_refl _) _).setCell (p := ⟨w.heap.size, 3, none⟩) (Nat.le_refl _) _).setCell (p := ⟨w.heap.size, 4, none⟩) (Nat.le_refl _) _).setCell (p := ⟨w.heap.size, 5, none⟩) (Nat.le_refl _) _).setCell (p := ⟨w.heap.size, 6, none⟩) (Nat.le_refl _) _).setCell (p := ⟨w.heap.size, 7, none⟩) (Nat.le_refl _) _).setCell (p := ⟨w.heap.size, 8, none⟩) (Nat.le_refl _) _).setCell (p := ⟨w.heap.size, 9, none⟩) (Nat.le_refl _) _).drew
    · have hd : decide ((k : Int) < (san : Int)) = true := decide_eq_true (by omega)
      obtain ⟨lb, lo, hla, hlc⟩ := HQ.out.1.cells (by omega)
      have hkl : k < l.length := by rw [HN.out]; exact hk
      obtain ⟨⟨a0, a1, a2, a3⟩, ha⟩ : ∃ a : Qd, l[k]? = some a := ⟨l[k], List.getElem?_eq_getElem hkl⟩
      have hmem : (a0, a1, a2, a3) ∈ l := List.mem_of_getElem? ha
      obtain ⟨r0, r1, r2, r3⟩ := HQ.out.2 _ hmem
      simp only at r0 r1 r2 r3
      have htk : Hid (leastB m s (l.take (k + 1)) = leastS m s (leastB m s (l.take k)) (a0, a1, a2, a3)) := by
        show _ = _
        rw [← leastB_snoc]
        congr 1
        rw [List.take_add_one, ha]; rfl
      obtain ⟨q0, q1, q2, q3⟩ := hlc k _ ha
      simp only at q0 q1 q2 q3
      have e0 := cell_bl HP.out.low q0
      have e1 := cell_bl HP.out.low q1
      have e2 := cell_bl HP.out.low q2
      have e3 := cell_bl HP.out.low q3
      obtain rfl := hla
      clear hlc q0 q1 q2 q3 hmem ha hkl
      generalize leastB m s (l.take k) = R at *
      obtain ⟨rs, S⟩ := R
      simp only at HP ⊢
      have hbw : w.heap.size + 1 < wr.heap.size := lt_block HP.out.fr
      have hgk : 0 < gk := by omega
      have HA : Hid (Lt w0 w (wr.alloc (.cells #[.int .i64 a0, .int .i64 a1, .int .i64 a2, .int .i64 a3] 79)) b g ⟨some ⟨lb, lo, none⟩, san, sac⟩ i j s S ∧ (wr.alloc (.cells #[.int .i64 a0, .int .i64 a1, .int .i64 a2, .int .i64 a3] 79)).heap[wr.heap.size]? = some (.cells #[.int .i64 a0, .int .i64 a1, .int .i64 a2, .int .i64 a3] 79 (0, 0))) := ⟨HP.out.next (below_new _), heap_alloc_new _ _⟩
      clear HP
      by_cases h1 : rs < a3
      · have d1 : decide (rs < a3) = true := by simpa using h1
        have HE : Hid (leastB m s (l.take (k + 1)) = (rs, S)) := by show _ = _; rw [htk.out]; unfold leastS; rw [if_pos (Or.inl h1)]
        clear htk h1 HO
        go_wp2
        go_roundg (gk - 1)
        case rel => exact ⟨k + 1, by omega, by go_num, by rw [HE.out], by rw [HE.out]; exact HA.out.1⟩
        case measure => omega
      have d1 : decide (rs < a3) = false := by simpa using h1
      obtain ⟨ob, hob⟩ : ∃ ob, openB m s (a0, a1, a2, a3) = ob := ⟨_, rfl⟩
      have HC := HO.out _ HA.out.1.wb a0 a1 a2 a3 r0 r1
      rw [hob] at HC
      have HCh : Hid (Calls _ _ _ _ _) := HC
      clear HC
      go_wp2_with fail
      refine HCh.out.mono ?_
      rintro r w1 ⟨rfl, hb1⟩
      have H1 : Hid (Lt w0 w w1 b g ⟨some ⟨lb, lo, none⟩, san, sac⟩ i j s S ∧ w1.heap[wr.heap.size]? = some (.cells #[.int .i64 a0, .int .i64 a1, .int .i64 a2, .int .i64 a3] 79 (0, 0))) := ⟨HA.out.1.next hb1, by rw [hb1.block _ (lt_block HA.out.2)]; exact HA.out.2⟩
      clear hb1 HCh HA HO e0 e1 e2 e3
      cases ob
      · have HE : Hid (leastB m s (l.take (k + 1)) = (rs, S)) := by show _ = _; rw [htk.out]; unfold leastS; rw [if_pos (Or.inr hob)]
        clear htk hob h1
        go_wp2
        go_roundg (gk - 1)
        case rel => exact ⟨k + 1, by omega, by go_num, by rw [HE.out], by rw [HE.out]; exact H1.out.1⟩
        case measure => omega
      have x2 := cell_block H1.out.2 2 _ rfl
      have x3 := cell_block H1.out.2 3 _ rfl
      obtain ⟨pf, hpf⟩ : ∃ pf : Nat, a2 = pf := ⟨a2.toNat, by omega⟩
      subst hpf
      have hpf10 : (pf : Int) < 10 := r2.2
      have hp10 : pf < 10 := by omega
      by_cases h2 : a3 < rs
      · have d2 : decide (a3 < rs) = true := by simpa using h2
        have HE : Hid (leastB m s (l.take (k + 1)) = (a3, putP (fun _ => false) pf)) := by
          show _ = _
          rw [htk.out]; unfold leastS
          rw [if_neg (fun z => z.elim (fun z => absurd z (by show ¬ rs < a3; omega)) (fun z => by rw [hob] at z; cases z)), if_pos h2]; rfl
        obtain ⟨wz, hwz⟩ : ∃ wz, wz = zeroed w1 (w.heap.size + 1) := ⟨_, rfl⟩
        have H3 : Hid (Lt w0 w wz b g ⟨some ⟨lb, lo, none⟩, san, sac⟩ i j s (fun _ => false)) := by
          show Lt _ _ _ _ _ _ _ _ _ _
          rw [hwz]; exact H1.out.1.zero hlt
        have H2 : Hid (Lt w0 w (wz.setCell ⟨w.heap.size + 1, pf, none⟩ (.bool true)) b g ⟨some ⟨lb, lo, none⟩, san, sac⟩ i j s (putP (fun _ => false) pf)) := H3.out.put hlt hp10
        have x2z : wz.cell? ⟨wr.heap.size, 2, none⟩ = some (.int .i64 (pf : Int)) := by
          have key : ∀ (W : World) (k : Nat) (v : Value), W.heap[wr.heap.size]? = some (.cells #[.int .i64 a0, .int .i64 a1, .int .i64 (pf : Int), .int .i64 a3] 79 (0, 0)) → (W.setCell ⟨w.heap.size + 1, k, none⟩ v).heap[wr.heap.size]? = some (.cells #[.int .i64 a0, .int .i64 a1, .int .i64 (pf : Int), .int .i64 a3] 79 (0, 0)) := fun W k v h => by
            rw [Below.heap_setCell _ _ _ _ (by show wr.heap.size ≠ w.heap.size + 1; omega)]; exact h
          rw [hwz]
          exact cell_block (key _ 9 _ (key _ 8 _ (key _ 7 _ (key _ 6 _ (key _ 5 _ (key _ 4 _ (key _ 3 _ (key _ 2 _ (key _ 1 _ (key _ 0 _ H1.out.2)))))))))) 2 _ rfl
        have hbb : w.heap.size + 1 < w1.heap.size := lt_block H1.out.1.fr
        have y0 := cell_block H1.out.1.fr 0 (.bool (S 0)) rfl
        have f0 : w1.frozen? ⟨w.heap.size + 1, 0, none⟩ = false := frozen_of_row _ _ 0 _ _ H1.out.1.fr
        have y1 := cell_block H1.out.1.fr 1 (.bool (S 1)) rfl
        have f1 : w1.frozen? ⟨w.heap.size + 1, 1, none⟩ = false := frozen_of_row _ _ 1 _ _ H1.out.1.fr
        have y2 := cell_block H1.out.1.fr 2 (.bool (S 2)) rfl
        have f2 : w1.frozen? ⟨w.heap.size + 1, 2, none⟩ = false := frozen_of_row _ _ 2 _ _ H1.out.1.fr
        have y3 := cell_block H1.out.1.fr 3 (.bool (S 3)) rfl
        have f3 : w1.frozen? ⟨w.heap.size + 1, 3, none⟩ = false := frozen_of_row _ _ 3 _ _ H1.out.1.fr
        have y4 := cell_block H1.out.1.fr 4 (.bool (S 4)) rfl
        have f4 : w1.frozen? ⟨w.heap.size + 1, 4, none⟩ = false := frozen_of_row _ _ 4 _ _ H1.out.1.fr
        have y5 := cell_block H1.out.1.fr 5 (.bool (S 5)) rfl
        have f5 : w1.frozen? ⟨w.heap.size + 1, 5, none⟩ = false := frozen_of_row _ _ 5 _ _ H1.out.1.fr
        have y6 := cell_block H1.out.1.fr 6 (.bool (S 6)) rfl
        have f6 : w1.frozen? ⟨w.heap.size + 1, 6, none⟩ = false := frozen_of_row _ _ 6 _ _ H1.out.1.fr
        have y7 := cell_block H1.out.1.fr 7 (.bool (S 7)) rfl
        have f7 : w1.frozen? ⟨w.heap.size + 1, 7, none⟩ = false := frozen_of_row _ _ 7 _ _ H1.out.1.fr
        have y8 := cell_block H1.out.1.fr 8 (.bool (S 8)) rfl
        have f8 : w1.frozen? ⟨w.heap.size + 1, 8, none⟩ = false := frozen_of_row _ _ 8 _ _ H1.out.1.fr
        have y9 := cell_block H1.out.1.fr 9 (.bool (S 9)) rfl
        have f9 : w1.frozen? ⟨w.heap.size + 1, 9, none⟩ = false := frozen_of_row _ _ 9 _ _ H1.out.1.fr
        clear htk hob h1 h2 H1
        unfold zeroed at hwz
        go_upto_region 8 with (fail)
        rw [← hwz]
        have y := cell_block H3.out.fr pf (.bool false) (setC_get (fun _ => false) hp10)
        have fz : wz.frozen? ⟨w.heap.size + 1, pf, none⟩ = false := frozen_of_row _ _ pf _ _ H3.out.fr
        clear H3 hwz y0 y1 y2 y3 y4 y5 y6 y7 y8 y9 x2 x3 f0 f1 f2 f3 f4 f5 f6 f7 f8 f9
        go_wp2
        go_roundg (gk - 1)
        case rel => exact ⟨k + 1, by omega, by go_num, by rw [HE.out], by rw [HE.out]; exact H2⟩
        case measure => omega
      · have d2 : decide (a3 < rs) = false := by simpa using h2
        have HE : Hid (leastB m s (l.take (k + 1)) = (rs, putP S pf)) := by
          show _ = _
          rw [htk.out]; unfold leastS
          rw [if_neg (fun z => z.elim (fun z => absurd z (by show ¬ rs < a3; omega)) (fun z => by rw [hob] at z; cases z)), if_neg h2]; rfl
        have H2 : Hid (Lt w0 w (w1.setCell ⟨w.heap.size + 1, pf, none⟩ (.bool true)) b g ⟨some ⟨lb, lo, none⟩, san, sac⟩ i j s (putP S pf)) := H1.out.1.put hlt hp10
        have y := cell_block H1.out.1.fr pf (.bool (S pf)) (setC_get _ hp10)
        have fz : w1.frozen? ⟨w.heap.size + 1, pf, none⟩ = false := frozen_of_row _ _ pf _ _ H1.out.1.fr
        have hbb : w.heap.size + 1 < w1.heap.size := lt_block H1.out.1.fr
        clear htk hob h1 h2 H1
        go_wp2
        go_roundg (gk - 1)
        case rel => exact ⟨k + 1, by omega, by go_num, by rw [HE.out], by rw [HE.out]; exact H2⟩
        case measure => omega
end

end Go.Proofs.YtnkfibahkmmnpaaGreat
