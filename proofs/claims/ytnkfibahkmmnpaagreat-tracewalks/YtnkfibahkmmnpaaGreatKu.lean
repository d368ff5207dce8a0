/-
  The walk of the document's step: table. The walk of the document's step: end; any instruction. The document's table in the making: row by row.
-/
import Derived.Test.YtnkfibahkmmnpaaGreatApp
import Derived.Test.YtnkfibahkmmnpaaGreatVrE
import Derived.Test.YtnkfibahkmmnpaaGreatKh
import Derived.Test.YtnkfibahkmmnpaaGreatKt
import Derived.Test.YtnkfibahkmmnpaaGreatMpS
namespace Go.Proofs.YtnkfibahkmmnpaaGreat
open Go.RowKit

theorem act5 (c : Cd) (x y : List Int) (i j : Nat) (M : Ms) (a b r : Int) : actB c x y i j M (5, a, b, r) = if i = 0 ∨ j = 0 then { M with regs := updC M.regs a.toNat ⟨false, (M.regs a.toNat).mask, 0⟩ } else { M with regs := if (M.regs a.toNat).has then updC M.regs a.toNat ⟨(M.regs a.toNat).has, (M.regs a.toNat).mask, wrap64 ((M.regs a.toNat).num + c.table.getD (x.getD (i - 1) 0 * c.letters + y.getD (j - 1) 0).toNat 0)⟩ else M.regs } := rfl
section
variable {w0 w : World} {p : Dp} {c : Cd} {s : Ls} {sx sy se : Sl} {x y : List Int} {M : Ms} {st : Int}
set_option maxRecDepth 10000 in
set_option maxHeartbeats 4000000 in
theorem dstep5e (h : Dt w0 w p c s sx sy x y se M st) (i j a b r : Nat) (ha : a < c.regs.toNat) (he : i = 0 ∨ j = 0) :
    Calls Tryz.prog 18 #[.pointer (some ⟨p.b, 0, none⟩), .agg #[.int .i64 5, .int .i64 (a : Int), .int .i64 (b : Int), .int .i64 (r : Int)], .int .i64 (i : Int), .int .i64 (j : Int)] w (SpPost w0 p c s sx sy x y (actB c x y i j M (5, (a : Int), (b : Int), (r : Int))) st) := by
  have H0 : Hid (Dt w0 (w.alloc (.cells #[.int .i64 5, .int .i64 (a : Int), .int .i64 (b : Int), .int .i64 (r : Int)] 65)) p c s sx sy x y se M st ∧ (w.alloc (.cells #[.int .i64 5, .int .i64 (a : Int), .int .i64 (b : Int), .int .i64 (r : Int)] 65)).heap[w.heap.size]? = some (.cells #[.int .i64 5, .int .i64 (a : Int), .int .i64 (b : Int), .int .i64 (r : Int)] 65 (0, 0))) := ⟨h.next (below_new _), heap_alloc_new _ _⟩
  obtain ⟨R, hR⟩ : ∃ R, c.regs.toNat = R := ⟨_, rfl⟩
  have HR : Hid (c.regs.toNat = R) := hR
  obtain ⟨P, hP⟩ : ∃ P, c.planes.toNat = P := ⟨_, rfl⟩
  have HPl : Hid (c.planes.toNat = P) := hP
  rw [act5, if_pos he]
  simp only [Int.toNat_natCast]
  have Ha : Hid (a < c.regs.toNat) := ha
  have hai : (a : Int) < (R : Int) := by omega
  clear ha
  clear h hR hP
  have hc : ((i : Int) == 0) = true ∨ (((i : Int) == 0) = false ∧ ((j : Int) == 0) = true) := by
    by_cases h1 : i = 0
    · exact Or.inl (by simp [h1])
    · exact Or.inr ⟨by simp [h1], by simp; omega⟩
  clear he
  rcases hc with e1 | ⟨e1, e2⟩
  · go_enter Tryz.func18, Tryz.ntmps18
    go_upto_region 16 with (fail)
    obtain ⟨wd, hwd⟩ : ∃ wd, wd = w.alloc (.cells #[.int .i64 5, .int .i64 (a : Int), .int .i64 (b : Int), .int .i64 (r : Int)] 65) := ⟨_, rfl⟩
    rw [← hwd] at H0 ⊢
    clear hwd
    have g0 := rc_has H0.out.1.reg Ha.out
    have g1 := rc_num H0.out.1.reg Ha.out
    have g2 := rc_mask H0.out.1.reg Ha.out
    have gf : ∀ t, _ := fun t => frozen_of_row _ _ t _ _ H0.out.1.reg
    have HF : Hid (Dt w0 (d3W wd p.gb a ct0).drew p c s sx sy x y se { M with regs := updC M.regs a ⟨false, (M.regs a).mask, 0⟩ } st ∧ (d3W wd p.gb a ct0).drew.heap[w.heap.size]? = some (.cells #[.int .i64 5, .int .i64 (a : Int), .int .i64 (b : Int), .int .i64 (r : Int)] 65 (0, 0))) := ⟨(H0.out.1.setReg a ⟨false, (M.regs a).mask, 0⟩ ct0 rfl).drew, by show (d3W wd p.gb a ct0).heap[w.heap.size]? = _; rw [d3_other _ _ _ _ (ty_ne H0.out.2 H0.out.1.reg (by decide))]; exact H0.out.2⟩
    have HS : Hid ((fun W : World => W.cell? ⟨p.b, 19, none⟩ = some (.slice (some ⟨p.gb, 0, none⟩) R R) ∧ W.cell? ⟨w.heap.size, 1, none⟩ = some (.int .i64 (a : Int))) wd.drew) := ⟨H0.out.1.c19 HR.out, cell_block H0.out.2 1 _ rfl⟩
    refine wp_region_Y (fun j => [8].contains j) (fun W : World => W.cell? ⟨p.b, 19, none⟩ = some (.slice (some ⟨p.gb, 0, none⟩) R R) ∧ W.cell? ⟨w.heap.size, 1, none⟩ = some (.int .i64 (a : Int))) (by kernel_rfl) ?_
    refine wpAnyY_pure (i := 0) 121 (v := .pointer (some ⟨p.b, 0, none⟩)) rfl rfl (by kernel_rfl) (by kernel_rfl) (by kernel_rfl) (fun _ _ _ h => h) (Or.inl ⟨by rfl, by (intro W _; go_simp)⟩) ?_
    simp only [Act.put, List.setIfInBounds_toArray, List.set_cons_succ, List.set_cons_zero]
    refine wpAnyY_pure (i := 1) 122 (v := .pointer (some ⟨p.b, 0, none⟩)) rfl rfl (by kernel_rfl) (by kernel_rfl) (by kernel_rfl) (fun _ _ _ h => h) (Or.inl ⟨by rfl, by (intro W _; go_simp)⟩) ?_
    simp only [Act.put, List.setIfInBounds_toArray, List.set_cons_succ, List.set_cons_zero]
    refine wpAnyY_pure (i := 2) 123 (v := .pointer (some ⟨p.b, 19, none⟩)) rfl rfl (by kernel_rfl) (by kernel_rfl) (by kernel_rfl) (fun _ _ _ h => h) (Or.inl ⟨by rfl, by (intro W _; go_simp)⟩) ?_
    simp only [Act.put, List.setIfInBounds_toArray, List.set_cons_succ, List.set_cons_zero]
    refine wpAnyY_takeD (i := 3) 124 (v := .slice (some ⟨p.gb, 0, none⟩) R R) rfl rfl (by kernel_rfl) (by kernel_rfl) (late_of (by kernel_rfl)) (by kernel_rfl) (by kernel_rfl) (fun _ _ _ h => h) HS.out (Or.inl ⟨by rfl, by (intro W hW; obtain ⟨e0, e1⟩ := hW; go_simp)⟩) ?_
    simp only [Act.put, List.setIfInBounds_toArray, List.set_cons_succ, List.set_cons_zero]
    refine wpAnyY_pure (i := 4) 125 (v := .pointer (some ⟨w.heap.size, 1, none⟩)) rfl rfl (by kernel_rfl) (by kernel_rfl) (by kernel_rfl) (fun _ _ _ h => h) (Or.inl ⟨by rfl, by (intro W _; go_simp)⟩) ?_
    simp only [Act.put, List.setIfInBounds_toArray, List.set_cons_succ, List.set_cons_zero]
    refine wpAnyY_takeD (i := 5) 126 (v := .int .i64 (a : Int)) rfl rfl (by kernel_rfl) (by kernel_rfl) (late_of (by kernel_rfl)) (by kernel_rfl) (by kernel_rfl) (fun _ _ _ h => h) HS.out (Or.inl ⟨by rfl, by (intro W hW; obtain ⟨e0, e1⟩ := hW; go_simp)⟩) ?_
    simp only [Act.put, List.setIfInBounds_toArray, List.set_cons_succ, List.set_cons_zero]
    refine wpAnyY_pure (i := 6) 127 (v := .agg #[.bool false, .int .i64 0, .int .i64 0]) rfl rfl (by kernel_rfl) (by kernel_rfl) (by kernel_rfl) (fun _ _ _ h => h) (Or.inl ⟨by rfl, by (intro W _; go_simp)⟩) ?_
    simp only [Act.put, List.setIfInBounds_toArray, List.set_cons_succ, List.set_cons_zero]
    refine wpAnyY_pure (i := 7) 128 (v := .pointer (some ⟨p.gb, a * 3, none⟩)) rfl rfl (by kernel_rfl) (by kernel_rfl) (by kernel_rfl) (fun _ _ _ h => h) (Or.inl ⟨by rfl, by (intro W _; go_simp)⟩) ?_
    simp only [Act.put, List.setIfInBounds_toArray, List.set_cons_succ, List.set_cons_zero]
    refine wpAnyY_one (i := 8) rfl (by kernel_rfl) (fun Kc hKc => ?_)
    go_simp
    refine hKc.out _ _ (fun h => absurd h (by decide)) ?_
    clear hKc Kc
    refine wpAnyY_done (by kernel_rfl) ?_ _
    unfold d3W ct0 at HF
    obtain ⟨we, hwe⟩ : ∃ we, we = (((wd.setCell ⟨p.gb, a * 3, none⟩ (.bool false)).setCell ⟨p.gb, a * 3 + 1, none⟩ (.int .i64 0)).setCell ⟨p.gb, a * 3 + 2, none⟩ (.int .i64 0)).drew := ⟨_, rfl⟩
    have H2 : Hid (Dt w0 we p c s sx sy x y se { M with regs := updC M.regs a ⟨false, (M.regs a).mask, 0⟩ } st ∧ we.heap[w.heap.size]? = some (.cells #[.int .i64 5, .int .i64 (a : Int), .int .i64 (b : Int), .int .i64 (r : Int)] 65 (0, 0))) := by rw [hwe]; exact HF
    rw [← hwe]
    clear hwe HF g0 g1 g2 gf H0 HS
    go_upto_region 17 with (fail)
    have g0 : we.cell? ⟨p.gb, a * 3, none⟩ = some (.bool false) := by
      have := rc_has H2.out.1.reg Ha.out
      rw [nz_has] at this
      have e : (updC M.regs a ⟨false, (M.regs a).mask, 0⟩ a).has = false := by unfold updC; rw [if_pos rfl]
      rw [e] at this
      exact this
    have HS : Hid ((fun W : World => W.cell? ⟨p.b, 19, none⟩ = some (.slice (some ⟨p.gb, 0, none⟩) R R) ∧ W.cell? ⟨w.heap.size, 1, none⟩ = some (.int .i64 (a : Int)) ∧ W.cell? ⟨p.gb, a * 3, none⟩ = some (.bool false)) we.drew) := ⟨H2.out.1.drew.c19 HR.out, cell_block H2.out.2 1 _ rfl, g0⟩
    refine wp_region_Y (fun j => [].contains j) (fun W : World => W.cell? ⟨p.b, 19, none⟩ = some (.slice (some ⟨p.gb, 0, none⟩) R R) ∧ W.cell? ⟨w.heap.size, 1, none⟩ = some (.int .i64 (a : Int)) ∧ W.cell? ⟨p.gb, a * 3, none⟩ = some (.bool false)) (by kernel_rfl) ?_
    refine wpAnyY_pure (i := 0) 129 (v := .pointer (some ⟨p.b, 0, none⟩)) rfl rfl (by kernel_rfl) (by kernel_rfl) (by kernel_rfl) (fun _ _ _ h => h) (Or.inl ⟨by rfl, by (intro W _; go_simp)⟩) ?_
    simp only [Act.put, List.setIfInBounds_toArray, List.set_cons_succ, List.set_cons_zero]
    refine wpAnyY_pure (i := 1) 130 (v := .pointer (some ⟨p.b, 0, none⟩)) rfl rfl (by kernel_rfl) (by kernel_rfl) (by kernel_rfl) (fun _ _ _ h => h) (Or.inl ⟨by rfl, by (intro W _; go_simp)⟩) ?_
    simp only [Act.put, List.setIfInBounds_toArray, List.set_cons_succ, List.set_cons_zero]
    refine wpAnyY_pure (i := 2) 131 (v := .pointer (some ⟨p.b, 19, none⟩)) rfl rfl (by kernel_rfl) (by kernel_rfl) (by kernel_rfl) (fun _ _ _ h => h) (Or.inl ⟨by rfl, by (intro W _; go_simp)⟩) ?_
    simp only [Act.put, List.setIfInBounds_toArray, List.set_cons_succ, List.set_cons_zero]
    refine wpAnyY_takeD (i := 3) 132 (v := .slice (some ⟨p.gb, 0, none⟩) R R) rfl rfl (by kernel_rfl) (by kernel_rfl) (late_of (by kernel_rfl)) (by kernel_rfl) (by kernel_rfl) (fun _ _ _ h => h) HS.out (Or.inl ⟨by rfl, by (intro W hW; obtain ⟨e0, e1, e2⟩ := hW; go_simp)⟩) ?_
    simp only [Act.put, List.setIfInBounds_toArray, List.set_cons_succ, List.set_cons_zero]
    refine wpAnyY_pure (i := 4) 133 (v := .pointer (some ⟨w.heap.size, 1, none⟩)) rfl rfl (by kernel_rfl) (by kernel_rfl) (by kernel_rfl) (fun _ _ _ h => h) (Or.inl ⟨by rfl, by (intro W _; go_simp)⟩) ?_
    simp only [Act.put, List.setIfInBounds_toArray, List.set_cons_succ, List.set_cons_zero]
    refine wpAnyY_takeD (i := 5) 134 (v := .int .i64 (a : Int)) rfl rfl (by kernel_rfl) (by kernel_rfl) (late_of (by kernel_rfl)) (by kernel_rfl) (by kernel_rfl) (fun _ _ _ h => h) HS.out (Or.inl ⟨by rfl, by (intro W hW; obtain ⟨e0, e1, e2⟩ := hW; go_simp)⟩) ?_
    simp only [Act.put, List.setIfInBounds_toArray, List.set_cons_succ, List.set_cons_zero]
    refine wpAnyY_pure (i := 6) 135 (v := .pointer (some ⟨p.gb, a * 3, none⟩)) rfl rfl (by kernel_rfl) (by kernel_rfl) (by kernel_rfl) (fun _ _ _ h => h) (Or.inl ⟨by rfl, by (intro W _; go_simp)⟩) ?_
    simp only [Act.put, List.setIfInBounds_toArray, List.set_cons_succ, List.set_cons_zero]
    refine wpAnyY_pure (i := 7) 136 (v := .pointer (some ⟨p.gb, a * 3, none⟩)) rfl rfl (by kernel_rfl) (by kernel_rfl) (by kernel_rfl) (fun _ _ _ h => h) (Or.inl ⟨by rfl, by (intro W _; go_simp)⟩) ?_
    simp only [Act.put, List.setIfInBounds_toArray, List.set_cons_succ, List.set_cons_zero]
    refine wpAnyY_takeD (i := 8) 137 (v := .bool false) rfl rfl (by kernel_rfl) (by kernel_rfl) (late_of (by kernel_rfl)) (by kernel_rfl) (by kernel_rfl) (fun _ _ _ h => h) HS.out (Or.inl ⟨by rfl, by (intro W hW; obtain ⟨e0, e1, e2⟩ := hW; go_simp)⟩) ?_
    simp only [Act.put, List.setIfInBounds_toArray, List.set_cons_succ, List.set_cons_zero]
    refine wpAnyY_done (by kernel_rfl) ?_ _
    have HF : Hid (Dt w0 we.drew p c s sx sy x y se { M with regs := updC M.regs a ⟨false, (M.regs a).mask, 0⟩ } st) := H2.out.1.drew
    clear H2 HS g0
    go_wp2
    go_end0
    exact ⟨rfl, _, HF.out⟩
  · go_enter Tryz.func18, Tryz.ntmps18
    go_upto_region 16 with (fail)
    obtain ⟨wd, hwd⟩ : ∃ wd, wd = w.alloc (.cells #[.int .i64 5, .int .i64 (a : Int), .int .i64 (b : Int), .int .i64 (r : Int)] 65) := ⟨_, rfl⟩
    rw [← hwd] at H0 ⊢
    clear hwd
    have g0 := rc_has H0.out.1.reg Ha.out
    have g1 := rc_num H0.out.1.reg Ha.out
    have g2 := rc_mask H0.out.1.reg Ha.out
    have gf : ∀ t, _ := fun t => frozen_of_row _ _ t _ _ H0.out.1.reg
    have HF : Hid (Dt w0 (d3W wd p.gb a ct0).drew p c s sx sy x y se { M with regs := updC M.regs a ⟨false, (M.regs a).mask, 0⟩ } st ∧ (d3W wd p.gb a ct0).drew.heap[w.heap.size]? = some (.cells #[.int .i64 5, .int .i64 (a : Int), .int .i64 (b : Int), .int .i64 (r : Int)] 65 (0, 0))) := ⟨(H0.out.1.setReg a ⟨false, (M.regs a).mask, 0⟩ ct0 rfl).drew, by show (d3W wd p.gb a ct0).heap[w.heap.size]? = _; rw [d3_other _ _ _ _ (ty_ne H0.out.2 H0.out.1.reg (by decide))]; exact H0.out.2⟩
    have HS : Hid ((fun W : World => W.cell? ⟨p.b, 19, none⟩ = some (.slice (some ⟨p.gb, 0, none⟩) R R) ∧ W.cell? ⟨w.heap.size, 1, none⟩ = some (.int .i64 (a : Int))) wd.drew) := ⟨H0.out.1.c19 HR.out, cell_block H0.out.2 1 _ rfl⟩
    refine wp_region_Y (fun j => [8].contains j) (fun W : World => W.cell? ⟨p.b, 19, none⟩ = some (.slice (some ⟨p.gb, 0, none⟩) R R) ∧ W.cell? ⟨w.heap.size, 1, none⟩ = some (.int .i64 (a : Int))) (by kernel_rfl) ?_
    refine wpAnyY_pure (i := 0) 121 (v := .pointer (some ⟨p.b, 0, none⟩)) rfl rfl (by kernel_rfl) (by kernel_rfl) (by kernel_rfl) (fun _ _ _ h => h) (Or.inl ⟨by rfl, by (intro W _; go_simp)⟩) ?_
    simp only [Act.put, List.setIfInBounds_toArray, List.set_cons_succ, List.set_cons_zero]
    refine wpAnyY_pure (i := 1) 122 (v := .pointer (some ⟨p.b, 0, none⟩)) rfl rfl (by kernel_rfl) (by kernel_rfl) (by kernel_rfl) (fun _ _ _ h => h) (Or.inl ⟨by rfl, by (intro W _; go_simp)⟩) ?_
    simp only [Act.put, List.setIfInBounds_toArray, List.set_cons_succ, List.set_cons_zero]
    refine wpAnyY_pure (i := 2) 123 (v := .pointer (some ⟨p.b, 19, none⟩)) rfl rfl (by kernel_rfl) (by kernel_rfl) (by kernel_rfl) (fun _ _ _ h => h) (Or.inl ⟨by rfl, by (intro W _; go_simp)⟩) ?_
    simp only [Act.put, List.setIfInBounds_toArray, List.set_cons_succ, List.set_cons_zero]
    refine wpAnyY_takeD (i := 3) 124 (v := .slice (some ⟨p.gb, 0, none⟩) R R) rfl rfl (by kernel_rfl) (by kernel_rfl) (late_of (by kernel_rfl)) (by kernel_rfl) (by kernel_rfl) (fun _ _ _ h => h) HS.out (Or.inl ⟨by rfl, by (intro W hW; obtain ⟨e0, e1⟩ := hW; go_simp)⟩) ?_
    simp only [Act.put, List.setIfInBounds_toArray, List.set_cons_succ, List.set_cons_zero]
    refine wpAnyY_pure (i := 4) 125 (v := .pointer (some ⟨w.heap.size, 1, none⟩)) rfl rfl (by kernel_rfl) (by kernel_rfl) (by kernel_rfl) (fun _ _ _ h => h) (Or.inl ⟨by rfl, by (intro W _; go_simp)⟩) ?_
    simp only [Act.put, List.setIfInBounds_toArray, List.set_cons_succ, List.set_cons_zero]
    refine wpAnyY_takeD (i := 5) 126 (v := .int .i64 (a : Int)) rfl rfl (by kernel_rfl) (by kernel_rfl) (late_of (by kernel_rfl)) (by kernel_rfl) (by kernel_rfl) (fun _ _ _ h => h) HS.out (Or.inl ⟨by rfl, by (intro W hW; obtain ⟨e0, e1⟩ := hW; go_simp)⟩) ?_
    simp only [Act.put, List.setIfInBounds_toArray, List.set_cons_succ, List.set_cons_zero]
    refine wpAnyY_pure (i := 6) 127 (v := .agg #[.bool false, .int .i64 0, .int .i64 0]) rfl rfl (by kernel_rfl) (by kernel_rfl) (by kernel_rfl) (fun _ _ _ h => h) (Or.inl ⟨by rfl, by (intro W _; go_simp)⟩) ?_
    simp only [Act.put, List.setIfInBounds_toArray, List.set_cons_succ, List.set_cons_zero]
    refine wpAnyY_pure (i := 7) 128 (v := .pointer (some ⟨p.gb, a * 3, none⟩)) rfl rfl (by kernel_rfl) (by kernel_rfl) (by kernel_rfl) (fun _ _ _ h => h) (Or.inl ⟨by rfl, by (intro W _; go_simp)⟩) ?_
    simp only [Act.put, List.setIfInBounds_toArray, List.set_cons_succ, List.set_cons_zero]
    refine wpAnyY_one (i := 8) rfl (by kernel_rfl) (fun Kc hKc => ?_)
    go_simp
    refine hKc.out _ _ (fun h => absurd h (by decide)) ?_
    clear hKc Kc
    refine wpAnyY_done (by kernel_rfl) ?_ _
    unfold d3W ct0 at HF
    obtain ⟨we, hwe⟩ : ∃ we, we = (((wd.setCell ⟨p.gb, a * 3, none⟩ (.bool false)).setCell ⟨p.gb, a * 3 + 1, none⟩ (.int .i64 0)).setCell ⟨p.gb, a * 3 + 2, none⟩ (.int .i64 0)).drew := ⟨_, rfl⟩
    have H2 : Hid (Dt w0 we p c s sx sy x y se { M with regs := updC M.regs a ⟨false, (M.regs a).mask, 0⟩ } st ∧ we.heap[w.heap.size]? = some (.cells #[.int .i64 5, .int .i64 (a : Int), .int .i64 (b : Int), .int .i64 (r : Int)] 65 (0, 0))) := by rw [hwe]; exact HF
    rw [← hwe]
    clear hwe HF g0 g1 g2 gf H0 HS
    go_upto_region 17 with (fail)
    have g0 : we.cell? ⟨p.gb, a * 3, none⟩ = some (.bool false) := by
      have := rc_has H2.out.1.reg Ha.out
      rw [nz_has] at this
      have e : (updC M.regs a ⟨false, (M.regs a).mask, 0⟩ a).has = false := by unfold updC; rw [if_pos rfl]
      rw [e] at this
      exact this
    have HS : Hid ((fun W : World => W.cell? ⟨p.b, 19, none⟩ = some (.slice (some ⟨p.gb, 0, none⟩) R R) ∧ W.cell? ⟨w.heap.size, 1, none⟩ = some (.int .i64 (a : Int)) ∧ W.cell? ⟨p.gb, a * 3, none⟩ = some (.bool false)) we.drew) := ⟨H2.out.1.drew.c19 HR.out, cell_block H2.out.2 1 _ rfl, g0⟩
    refine wp_region_Y (fun j => [].contains j) (fun W : World => W.cell? ⟨p.b, 19, none⟩ = some (.slice (some ⟨p.gb, 0, none⟩) R R) ∧ W.cell? ⟨w.heap.size, 1, none⟩ = some (.int .i64 (a : Int)) ∧ W.cell? ⟨p.gb, a * 3, none⟩ = some (.bool false)) (by kernel_rfl) ?_
    refine wpAnyY_pure (i := 0) 129 (v := .pointer (some ⟨p.b, 0, none⟩)) rfl rfl (by kernel_rfl) (by kernel_rfl) (by kernel_rfl) (fun _ _ _ h => h) (Or.inl ⟨by rfl, by (intro W _; go_simp)⟩) ?_
    simp only [Act.put, List.setIfInBounds_toArray, List.set_cons_succ, List.set_cons_zero]
    refine wpAnyY_pure (i := 1) 130 (v := .pointer (some ⟨p.b, 0, none⟩)) rfl rfl (by kernel_rfl) (by kernel_rfl) (by kernel_rfl) (fun _ _ _ h => h) (Or.inl ⟨by rfl, by (intro W _; go_simp)⟩) ?_
    simp only [Act.put, List.setIfInBounds_toArray, List.set_cons_succ, List.set_cons_zero]
    refine wpAnyY_pure (i := 2) 131 (v := .pointer (some ⟨p.b, 19, none⟩)) rfl rfl (by kernel_rfl) (by kernel_rfl) (by kernel_rfl) (fun _ _ _ h => h) (Or.inl ⟨by rfl, by (intro W _; go_simp)⟩) ?_
    simp only [Act.put, List.setIfInBounds_toArray, List.set_cons_succ, List.set_cons_zero]
    refine wpAnyY_takeD (i := 3) 132 (v := .slice (some ⟨p.gb, 0, none⟩) R R) rfl rfl (by kernel_rfl) (by kernel_rfl) (late_of (by kernel_rfl)) (by kernel_rfl) (by kernel_rfl) (fun _ _ _ h => h) HS.out (Or.inl ⟨by rfl, by (intro W hW; obtain ⟨e0, e1, e2⟩ := hW; go_simp)⟩) ?_
    simp only [Act.put, List.setIfInBounds_toArray, List.set_cons_succ, List.set_cons_zero]
    refine wpAnyY_pure (i := 4) 133 (v := .pointer (some ⟨w.heap.size, 1, none⟩)) rfl rfl (by kernel_rfl) (by kernel_rfl) (by kernel_rfl) (fun _ _ _ h => h) (Or.inl ⟨by rfl, by (intro W _; go_simp)⟩) ?_
    simp only [Act.put, List.setIfInBounds_toArray, List.set_cons_succ, List.set_cons_zero]
    refine wpAnyY_takeD (i := 5) 134 (v := .int .i64 (a : Int)) rfl rfl (by kernel_rfl) (by kernel_rfl) (late_of (by kernel_rfl)) (by kernel_rfl) (by kernel_rfl) (fun _ _ _ h => h) HS.out (Or.inl ⟨by rfl, by (intro W hW; obtain ⟨e0, e1, e2⟩ := hW; go_simp)⟩) ?_
    simp only [Act.put, List.setIfInBounds_toArray, List.set_cons_succ, List.set_cons_zero]
    refine wpAnyY_pure (i := 6) 135 (v := .pointer (some ⟨p.gb, a * 3, none⟩)) rfl rfl (by kernel_rfl) (by kernel_rfl) (by kernel_rfl) (fun _ _ _ h => h) (Or.inl ⟨by rfl, by (intro W _; go_simp)⟩) ?_
    simp only [Act.put, List.setIfInBounds_toArray, List.set_cons_succ, List.set_cons_zero]
    refine wpAnyY_pure (i := 7) 136 (v := .pointer (some ⟨p.gb, a * 3, none⟩)) rfl rfl (by kernel_rfl) (by kernel_rfl) (by kernel_rfl) (fun _ _ _ h => h) (Or.inl ⟨by rfl, by (intro W _; go_simp)⟩) ?_
    simp only [Act.put, List.setIfInBounds_toArray, List.set_cons_succ, List.set_cons_zero]
    refine wpAnyY_takeD (i := 8) 137 (v := .bool false) rfl rfl (by kernel_rfl) (by kernel_rfl) (late_of (by kernel_rfl)) (by kernel_rfl) (by kernel_rfl) (fun _ _ _ h => h) HS.out (Or.inl ⟨by rfl, by (intro W hW; obtain ⟨e0, e1, e2⟩ := hW; go_simp)⟩) ?_
    simp only [Act.put, List.setIfInBounds_toArray, List.set_cons_succ, List.set_cons_zero]
    refine wpAnyY_done (by kernel_rfl) ?_ _
    have HF : Hid (Dt w0 we.drew p c s sx sy x y se { M with regs := updC M.regs a ⟨false, (M.regs a).mask, 0⟩ } st) := H2.out.1.drew
    clear H2 HS g0
    go_wp2
    go_end0
    exact ⟨rfl, _, HF.out⟩
set_option maxRecDepth 10000 in
set_option maxHeartbeats 4000000 in
theorem dstep5i (h : Dt w0 w p c s sx sy x y se M st) (i1 j1 a b r : Nat) (ha : a < c.regs.toNat) (hi : i1 + 1 ≤ x.length) (hj : j1 + 1 ≤ y.length) (hL : 0 ≤ c.letters ∧ c.letters ≤ 20) (hx0 : 0 ≤ x.getD i1 0 ∧ x.getD i1 0 < c.letters) (hy0 : 0 ≤ y.getD j1 0 ∧ y.getD j1 0 < c.letters) (htb : (c.table.length : Int) = c.letters * c.letters) :
    Calls Tryz.prog 18 #[.pointer (some ⟨p.b, 0, none⟩), .agg #[.int .i64 5, .int .i64 (a : Int), .int .i64 (b : Int), .int .i64 (r : Int)], .int .i64 ((i1 + 1 : Nat) : Int), .int .i64 ((j1 + 1 : Nat) : Int)] w (SpPost w0 p c s sx sy x y (actB c x y (i1 + 1) (j1 + 1) M (5, (a : Int), (b : Int), (r : Int))) st) := by
  have H0 : Hid (Dt w0 (w.alloc (.cells #[.int .i64 5, .int .i64 (a : Int), .int .i64 (b : Int), .int .i64 (r : Int)] 65)) p c s sx sy x y se M st ∧ (w.alloc (.cells #[.int .i64 5, .int .i64 (a : Int), .int .i64 (b : Int), .int .i64 (r : Int)] 65)).heap[w.heap.size]? = some (.cells #[.int .i64 5, .int .i64 (a : Int), .int .i64 (b : Int), .int .i64 (r : Int)] 65 (0, 0))) := ⟨h.next (below_new _), heap_alloc_new _ _⟩
  obtain ⟨R, hR⟩ : ∃ R, c.regs.toNat = R := ⟨_, rfl⟩
  have HR : Hid (c.regs.toNat = R) := hR
  obtain ⟨P, hP⟩ : ∃ P, c.planes.toNat = P := ⟨_, rfl⟩
  have HPl : Hid (c.planes.toNat = P) := hP
  rw [act5, if_neg (by omega)]
  simp only [Int.toNat_natCast, Nat.add_sub_cancel]
  have Ha : Hid (a < c.regs.toNat) := ha
  have hai : (a : Int) < (R : Int) := by omega
  clear ha
  obtain ⟨L, hLn⟩ := Int.eq_ofNat_of_zero_le hL.1
  obtain ⟨u, hu⟩ := Int.eq_ofNat_of_zero_le hx0.1
  obtain ⟨v, hv⟩ := Int.eq_ofNat_of_zero_le hy0.1
  rw [hu, hLn] at hx0
  rw [hv, hLn] at hy0
  rw [hLn] at htb hL
  rw [hu, hv, hLn]
  have hlu : u < L := by omega
  have hlv : v < L := by omega
  have htl : c.table.length = L * L := by exact_mod_cast htb
  have ht : u * L + v < L * L := by
    have : (u + 1) * L ≤ L * L := Nat.mul_le_mul_right _ (by omega)
    rw [Nat.add_mul, Nat.one_mul] at this
    omega
  obtain ⟨m, hm⟩ : ∃ m, u * L = m := ⟨_, rfl⟩
  rw [hm] at ht
  have hLL : L * L ≤ 400 := by
    have : L * L ≤ 20 * 20 := Nat.mul_le_mul (by omega) (by omega)
    omega
  obtain ⟨t, ht1⟩ : ∃ t, m + v = t := ⟨_, rfl⟩
  rw [ht1] at ht
  have hmul : (u : Int) * (L : Int) = (m : Int) := by rw [← hm]; simp
  have hadd : (m : Int) + (v : Int) = (t : Int) := by rw [← ht1]; simp
  rw [hmul, hadd, Int.toNat_natCast]
  have htn := h.cd.table.length
  have hxn := h.hx.length
  have hyn := h.hy.length
  obtain ⟨tb, tof, hst, htc⟩ := h.cd.table.cells (by omega)
  obtain ⟨xb, xo, hsx, hxc⟩ := h.hx.cells (by omega)
  obtain ⟨yb, yo, hsy, hyc⟩ := h.hy.cells (by omega)
  have HCl : Hid (w0.cell? ⟨tb, tof + t, none⟩ = some (.int .i64 (c.table.getD t 0)) ∧ w0.cell? ⟨xb, xo + i1, none⟩ = some (.int .i64 (u : Int)) ∧ w0.cell? ⟨yb, yo + j1, none⟩ = some (.int .i64 (v : Int))) := ⟨htc t (by omega), by rw [← hu]; exact hxc i1 (by omega), by rw [← hv]; exact hyc j1 (by omega)⟩
  have HBx : Hid (∀ W, Dt w0 W p c s sx sy x y se M st → W.cell? ⟨p.b, 6, none⟩ = some (.slice (some ⟨tb, tof, none⟩) s.t.n s.t.c) ∧ W.cell? ⟨p.b, 10, none⟩ = some (.slice (some ⟨xb, xo, none⟩) sx.n sx.c) ∧ W.cell? ⟨p.b, 11, none⟩ = some (.slice (some ⟨yb, yo, none⟩) sy.n sy.c) ∧ W.cell? ⟨p.b, 0, none⟩ = some (.int .i64 (L : Int))) := fun W hW => ⟨by rw [← hst]; exact hW.cell 6 rfl, by rw [← hsx]; exact hW.cell 10 rfl, by rw [← hsy]; exact hW.cell 11 rfl, by rw [← hLn]; exact hW.cell 0 rfl⟩
  obtain ⟨tv, htv⟩ : ∃ tv, c.table.getD t 0 = tv := ⟨_, rfl⟩
  rw [htv] at HCl ⊢
  have b1 : (t : Int) < (s.t.n : Int) := by omega
  have b2 : (i1 : Int) < (sx.n : Int) := by omega
  have b3 : (j1 : Int) < (sy.n : Int) := by omega
  have b4 : (t : Int) ≤ 400 := by omega
  have b5 : (m : Int) ≤ 400 := by omega
  have hsxs := h.hx.short
  have hsys := h.hy.short
  unfold maxLen at hsxs hsys
  have hi64 : (i1 : Int) ≤ 9223372036854775806 := by omega
  have hj64 : (j1 : Int) ≤ 9223372036854775806 := by omega
  obtain ⟨i, hi1⟩ : ∃ i : Nat, i1 + 1 = i := ⟨_, rfl⟩
  obtain ⟨j, hj1⟩ : ∃ j : Nat, j1 + 1 = j := ⟨_, rfl⟩
  rw [hi1, hj1]
  have w1 : IntKind.i64.wrap (i1 : Int) = (i1 : Int) := by rw [← wrap_is]; unfold wrap64; omega
  have w2 : IntKind.i64.wrap (j1 : Int) = (j1 : Int) := by rw [← wrap_is]; unfold wrap64; omega
  have w3 : IntKind.i64.wrap (m : Int) = (m : Int) := by rw [← wrap_is]; unfold wrap64; omega
  have w4 : IntKind.i64.wrap (t : Int) = (t : Int) := by rw [← wrap_is]; unfold wrap64; omega
  have e1 : ((i : Int) == 0) = false := by simp; omega
  have e2 : ((j : Int) == 0) = false := by simp; omega
  have hii : (i : Int) - 1 = (i1 : Int) := by omega
  have hjj : (j : Int) - 1 = (j1 : Int) := by omega
  obtain ⟨rv, hrv⟩ : ∃ rv, (if (M.regs a).has = true then updC M.regs a ⟨(M.regs a).has, (M.regs a).mask, wrap64 ((M.regs a).num + tv)⟩ else M.regs) = rv := ⟨_, rfl⟩
  have HRv : Hid ((if (M.regs a).has = true then updC M.regs a ⟨(M.regs a).has, (M.regs a).mask, wrap64 ((M.regs a).num + tv)⟩ else M.regs) = rv) := hrv
  rw [hrv]
  clear h hR hP hi hj hL hx0 hy0 htb hLn hu hv hlu hlv htl ht hm hLL ht1 htn hxn hyn hst htc hsx hxc hsy hyc htv hsxs hsys hi1 hj1 hrv
  go_enter Tryz.func18, Tryz.ntmps18
  go_upto_region 17 with (fail)
  obtain ⟨wd, hwd⟩ : ∃ wd, wd = w.alloc (.cells #[.int .i64 5, .int .i64 (a : Int), .int .i64 (b : Int), .int .i64 (r : Int)] 65) := ⟨_, rfl⟩
  rw [← hwd] at H0 ⊢
  clear hwd
  have g0 := rc_has H0.out.1.reg Ha.out
  have g1 := rc_num H0.out.1.reg Ha.out
  have g2 := rc_mask H0.out.1.reg Ha.out
  have gf : ∀ t, _ := fun t => frozen_of_row _ _ t _ _ H0.out.1.reg
  have HGh : Hid ((nzC (M.regs a)).has = (M.regs a).has ∧ ((M.regs a).has = true → (nzC (M.regs a)).num = (M.regs a).num)) := ⟨nz_has _, fun e => by rw [nz_yes e]⟩
  obtain ⟨gh, hgh⟩ : ∃ gh, (nzC (M.regs a)).has = gh := ⟨_, rfl⟩
  obtain ⟨gn, hgn⟩ : ∃ gn, (nzC (M.regs a)).num = gn := ⟨_, rfl⟩
  rw [hgh] at g0 HGh
  rw [hgn] at g1 HGh
  clear hgh hgn
  have HS : Hid ((fun W : World => W.cell? ⟨p.b, 19, none⟩ = some (.slice (some ⟨p.gb, 0, none⟩) R R) ∧ W.cell? ⟨w.heap.size, 1, none⟩ = some (.int .i64 (a : Int)) ∧ W.cell? ⟨p.gb, a * 3, none⟩ = some (.bool gh)) wd.drew) := ⟨H0.out.1.drew.c19 HR.out, cell_block H0.out.2 1 _ rfl, g0⟩
  refine wp_region_Y (fun j => [].contains j) (fun W : World => W.cell? ⟨p.b, 19, none⟩ = some (.slice (some ⟨p.gb, 0, none⟩) R R) ∧ W.cell? ⟨w.heap.size, 1, none⟩ = some (.int .i64 (a : Int)) ∧ W.cell? ⟨p.gb, a * 3, none⟩ = some (.bool gh)) (by kernel_rfl) ?_
  refine wpAnyY_pure (i := 0) 129 (v := .pointer (some ⟨p.b, 0, none⟩)) rfl rfl (by kernel_rfl) (by kernel_rfl) (by kernel_rfl) (fun _ _ _ h => h) (Or.inl ⟨by rfl, by (intro W _; go_simp)⟩) ?_
  simp only [Act.put, List.setIfInBounds_toArray, List.set_cons_succ, List.set_cons_zero]
  refine wpAnyY_pure (i := 1) 130 (v := .pointer (some ⟨p.b, 0, none⟩)) rfl rfl (by kernel_rfl) (by kernel_rfl) (by kernel_rfl) (fun _ _ _ h => h) (Or.inl ⟨by rfl, by (intro W _; go_simp)⟩) ?_
  simp only [Act.put, List.setIfInBounds_toArray, List.set_cons_succ, List.set_cons_zero]
  refine wpAnyY_pure (i := 2) 131 (v := .pointer (some ⟨p.b, 19, none⟩)) rfl rfl (by kernel_rfl) (by kernel_rfl) (by kernel_rfl) (fun _ _ _ h => h) (Or.inl ⟨by rfl, by (intro W _; go_simp)⟩) ?_
  simp only [Act.put, List.setIfInBounds_toArray, List.set_cons_succ, List.set_cons_zero]
  refine wpAnyY_takeD (i := 3) 132 (v := .slice (some ⟨p.gb, 0, none⟩) R R) rfl rfl (by kernel_rfl) (by kernel_rfl) (late_of (by kernel_rfl)) (by kernel_rfl) (by kernel_rfl) (fun _ _ _ h => h) HS.out (Or.inl ⟨by rfl, by (intro W hW; obtain ⟨e0, e1, e2⟩ := hW; go_simp)⟩) ?_
  simp only [Act.put, List.setIfInBounds_toArray, List.set_cons_succ, List.set_cons_zero]
  refine wpAnyY_pure (i := 4) 133 (v := .pointer (some ⟨w.heap.size, 1, none⟩)) rfl rfl (by kernel_rfl) (by kernel_rfl) (by kernel_rfl) (fun _ _ _ h => h) (Or.inl ⟨by rfl, by (intro W _; go_simp)⟩) ?_
  simp only [Act.put, List.setIfInBounds_toArray, List.set_cons_succ, List.set_cons_zero]
  refine wpAnyY_takeD (i := 5) 134 (v := .int .i64 (a : Int)) rfl rfl (by kernel_rfl) (by kernel_rfl) (late_of (by kernel_rfl)) (by kernel_rfl) (by kernel_rfl) (fun _ _ _ h => h) HS.out (Or.inl ⟨by rfl, by (intro W hW; obtain ⟨e0, e1, e2⟩ := hW; go_simp)⟩) ?_
  simp only [Act.put, List.setIfInBounds_toArray, List.set_cons_succ, List.set_cons_zero]
  refine wpAnyY_pure (i := 6) 135 (v := .pointer (some ⟨p.gb, a * 3, none⟩)) rfl rfl (by kernel_rfl) (by kernel_rfl) (by kernel_rfl) (fun _ _ _ h => h) (Or.inl ⟨by rfl, by (intro W _; go_simp)⟩) ?_
  simp only [Act.put, List.setIfInBounds_toArray, List.set_cons_succ, List.set_cons_zero]
  refine wpAnyY_pure (i := 7) 136 (v := .pointer (some ⟨p.gb, a * 3, none⟩)) rfl rfl (by kernel_rfl) (by kernel_rfl) (by kernel_rfl) (fun _ _ _ h => h) (Or.inl ⟨by rfl, by (intro W _; go_simp)⟩) ?_
  simp only [Act.put, List.setIfInBounds_toArray, List.set_cons_succ, List.set_cons_zero]
  refine wpAnyY_takeD (i := 8) 137 (v := .bool gh) rfl rfl (by kernel_rfl) (by kernel_rfl) (late_of (by kernel_rfl)) (by kernel_rfl) (by kernel_rfl) (fun _ _ _ h => h) HS.out (Or.inl ⟨by rfl, by (intro W hW; obtain ⟨e0, e1, e2⟩ := hW; go_simp)⟩) ?_
  simp only [Act.put, List.setIfInBounds_toArray, List.set_cons_succ, List.set_cons_zero]
  refine wpAnyY_done (by kernel_rfl) ?_ _
  clear HS
  cases gh with
  | false =>
    have htv2 : M.regs = rv := by rw [← HRv.out, ← HGh.out.1]; rfl
    subst htv2
    have HF : Hid (Dt w0 wd.drew p c s sx sy x y se M st) := H0.out.1.drew
    clear HRv HGh
    go_wp2
    go_end0
    exact ⟨rfl, _, HF.out⟩
  | true =>
    have htv2 : updC M.regs a ⟨(M.regs a).has, (M.regs a).mask, wrap64 ((M.regs a).num + tv)⟩ = rv := by rw [← HRv.out, ← HGh.out.1]; rfl
    subst htv2
    have HF : Hid (Dt w0 (wd.drew.setCell ⟨p.gb, a * 3 + 1, none⟩ (.int .i64 (IntKind.i64.wrap (gn + tv)))).drew p c s sx sy x y se { M with regs := updC M.regs a ⟨(M.regs a).has, (M.regs a).mask, wrap64 ((M.regs a).num + tv)⟩ } st) := by
      have e := HGh.out.2 HGh.out.1.symm
      rw [wrap_is, ← e]
      exact (H0.out.1.drew.setNum a _ HGh.out.1.symm).drew
    clear HRv HGh
    go_upto_region 18 with (fail)
    have HS2 : Hid ((fun W : World => W.cell? ⟨p.b, 19, none⟩ = some (.slice (some ⟨p.gb, 0, none⟩) R R) ∧ W.cell? ⟨w.heap.size, 1, none⟩ = some (.int .i64 (a : Int)) ∧ W.cell? ⟨p.gb, a * 3 + 1, none⟩ = some (.int .i64 gn) ∧ W.cell? ⟨p.b, 6, none⟩ = some (.slice (some ⟨tb, tof, none⟩) s.t.n s.t.c) ∧ W.cell? ⟨p.b, 10, none⟩ = some (.slice (some ⟨xb, xo, none⟩) sx.n sx.c) ∧ W.cell? ⟨xb, xo + i1, none⟩ = some (.int .i64 (u : Int)) ∧ W.cell? ⟨p.b, 0, none⟩ = some (.int .i64 (L : Int)) ∧ W.cell? ⟨p.b, 11, none⟩ = some (.slice (some ⟨yb, yo, none⟩) sy.n sy.c) ∧ W.cell? ⟨yb, yo + j1, none⟩ = some (.int .i64 (v : Int)) ∧ W.cell? ⟨tb, tof + t, none⟩ = some (.int .i64 tv)) wd.drew.drew) := ⟨H0.out.1.drew.drew.c19 HR.out, cell_block H0.out.2 1 _ rfl, g1, (HBx.out _ H0.out.1.drew.drew).1, (HBx.out _ H0.out.1.drew.drew).2.1, cell_bl H0.out.1.drew.drew.low HCl.out.2.1, (HBx.out _ H0.out.1.drew.drew).2.2.2, (HBx.out _ H0.out.1.drew.drew).2.2.1, cell_bl H0.out.1.drew.drew.low HCl.out.2.2, cell_bl H0.out.1.drew.drew.low HCl.out.1⟩
    refine wp_region_Y (fun j => [48].contains j) (fun W : World => W.cell? ⟨p.b, 19, none⟩ = some (.slice (some ⟨p.gb, 0, none⟩) R R) ∧ W.cell? ⟨w.heap.size, 1, none⟩ = some (.int .i64 (a : Int)) ∧ W.cell? ⟨p.gb, a * 3 + 1, none⟩ = some (.int .i64 gn) ∧ W.cell? ⟨p.b, 6, none⟩ = some (.slice (some ⟨tb, tof, none⟩) s.t.n s.t.c) ∧ W.cell? ⟨p.b, 10, none⟩ = some (.slice (some ⟨xb, xo, none⟩) sx.n sx.c) ∧ W.cell? ⟨xb, xo + i1, none⟩ = some (.int .i64 (u : Int)) ∧ W.cell? ⟨p.b, 0, none⟩ = some (.int .i64 (L : Int)) ∧ W.cell? ⟨p.b, 11, none⟩ = some (.slice (some ⟨yb, yo, none⟩) sy.n sy.c) ∧ W.cell? ⟨yb, yo + j1, none⟩ = some (.int .i64 (v : Int)) ∧ W.cell? ⟨tb, tof + t, none⟩ = some (.int .i64 tv)) (by kernel_rfl) ?_
    refine wpAnyY_pure (i := 0) 138 (v := .pointer (some ⟨p.b, 0, none⟩)) rfl rfl (by kernel_rfl) (by kernel_rfl) (by kernel_rfl) (fun _ _ _ h => h) (Or.inl ⟨by rfl, by (intro W _; go_simp)⟩) ?_
    simp only [Act.put, List.setIfInBounds_toArray, List.set_cons_succ, List.set_cons_zero]
    refine wpAnyY_pure (i := 1) 139 (v := .pointer (some ⟨p.b, 0, none⟩)) rfl rfl (by kernel_rfl) (by kernel_rfl) (by kernel_rfl) (fun _ _ _ h => h) (Or.inl ⟨by rfl, by (intro W _; go_simp)⟩) ?_
    simp only [Act.put, List.setIfInBounds_toArray, List.set_cons_succ, List.set_cons_zero]
    refine wpAnyY_pure (i := 2) 140 (v := .pointer (some ⟨p.b, 19, none⟩)) rfl rfl (by kernel_rfl) (by kernel_rfl) (by kernel_rfl) (fun _ _ _ h => h) (Or.inl ⟨by rfl, by (intro W _; go_simp)⟩) ?_
    simp only [Act.put, List.setIfInBounds_toArray, List.set_cons_succ, List.set_cons_zero]
    refine wpAnyY_takeD (i := 3) 141 (v := .slice (some ⟨p.gb, 0, none⟩) R R) rfl rfl (by kernel_rfl) (by kernel_rfl) (late_of (by kernel_rfl)) (by kernel_rfl) (by kernel_rfl) (fun _ _ _ h => h) HS2.out (Or.inl ⟨by rfl, by (intro W hW; obtain ⟨e0, e1, e2, e3, e4, e5, e6, e7, e8, e9⟩ := hW; go_simp)⟩) ?_
    simp only [Act.put, List.setIfInBounds_toArray, List.set_cons_succ, List.set_cons_zero]
    refine wpAnyY_pure (i := 4) 142 (v := .pointer (some ⟨w.heap.size, 1, none⟩)) rfl rfl (by kernel_rfl) (by kernel_rfl) (by kernel_rfl) (fun _ _ _ h => h) (Or.inl ⟨by rfl, by (intro W _; go_simp)⟩) ?_
    simp only [Act.put, List.setIfInBounds_toArray, List.set_cons_succ, List.set_cons_zero]
    refine wpAnyY_takeD (i := 5) 143 (v := .int .i64 (a : Int)) rfl rfl (by kernel_rfl) (by kernel_rfl) (late_of (by kernel_rfl)) (by kernel_rfl) (by kernel_rfl) (fun _ _ _ h => h) HS2.out (Or.inl ⟨by rfl, by (intro W hW; obtain ⟨e0, e1, e2, e3, e4, e5, e6, e7, e8, e9⟩ := hW; go_simp)⟩) ?_
    simp only [Act.put, List.setIfInBounds_toArray, List.set_cons_succ, List.set_cons_zero]
    refine wpAnyY_pure (i := 6) 144 (v := .pointer (some ⟨p.b, 0, none⟩)) rfl rfl (by kernel_rfl) (by kernel_rfl) (by kernel_rfl) (fun _ _ _ h => h) (Or.inl ⟨by rfl, by (intro W _; go_simp)⟩) ?_
    simp only [Act.put, List.setIfInBounds_toArray, List.set_cons_succ, List.set_cons_zero]
    refine wpAnyY_pure (i := 7) 145 (v := .pointer (some ⟨p.b, 0, none⟩)) rfl rfl (by kernel_rfl) (by kernel_rfl) (by kernel_rfl) (fun _ _ _ h => h) (Or.inl ⟨by rfl, by (intro W _; go_simp)⟩) ?_
    simp only [Act.put, List.setIfInBounds_toArray, List.set_cons_succ, List.set_cons_zero]
    refine wpAnyY_pure (i := 8) 146 (v := .pointer (some ⟨p.b, 19, none⟩)) rfl rfl (by kernel_rfl) (by kernel_rfl) (by kernel_rfl) (fun _ _ _ h => h) (Or.inl ⟨by rfl, by (intro W _; go_simp)⟩) ?_
    simp only [Act.put, List.setIfInBounds_toArray, List.set_cons_succ, List.set_cons_zero]
    refine wpAnyY_takeD (i := 9) 147 (v := .slice (some ⟨p.gb, 0, none⟩) R R) rfl rfl (by kernel_rfl) (by kernel_rfl) (late_of (by kernel_rfl)) (by kernel_rfl) (by kernel_rfl) (fun _ _ _ h => h) HS2.out (Or.inl ⟨by rfl, by (intro W hW; obtain ⟨e0, e1, e2, e3, e4, e5, e6, e7, e8, e9⟩ := hW; go_simp)⟩) ?_
    simp only [Act.put, List.setIfInBounds_toArray, List.set_cons_succ, List.set_cons_zero]
    refine wpAnyY_pure (i := 10) 148 (v := .pointer (some ⟨w.heap.size, 1, none⟩)) rfl rfl (by kernel_rfl) (by kernel_rfl) (by kernel_rfl) (fun _ _ _ h => h) (Or.inl ⟨by rfl, by (intro W _; go_simp)⟩) ?_
    simp only [Act.put, List.setIfInBounds_toArray, List.set_cons_succ, List.set_cons_zero]
    refine wpAnyY_takeD (i := 11) 149 (v := .int .i64 (a : Int)) rfl rfl (by kernel_rfl) (by kernel_rfl) (late_of (by kernel_rfl)) (by kernel_rfl) (by kernel_rfl) (fun _ _ _ h => h) HS2.out (Or.inl ⟨by rfl, by (intro W hW; obtain ⟨e0, e1, e2, e3, e4, e5, e6, e7, e8, e9⟩ := hW; go_simp)⟩) ?_
    simp only [Act.put, List.setIfInBounds_toArray, List.set_cons_succ, List.set_cons_zero]
    refine wpAnyY_pure (i := 12) 150 (v := .pointer (some ⟨p.gb, a * 3, none⟩)) rfl rfl (by kernel_rfl) (by kernel_rfl) (by kernel_rfl) (fun _ _ _ h => h) (Or.inl ⟨by rfl, by (intro W _; go_simp)⟩) ?_
    simp only [Act.put, List.setIfInBounds_toArray, List.set_cons_succ, List.set_cons_zero]
    refine wpAnyY_pure (i := 13) 151 (v := .pointer (some ⟨p.gb, a * 3 + 1, none⟩)) rfl rfl (by kernel_rfl) (by kernel_rfl) (by kernel_rfl) (fun _ _ _ h => h) (Or.inl ⟨by rfl, by (intro W _; go_simp)⟩) ?_
    simp only [Act.put, List.setIfInBounds_toArray, List.set_cons_succ, List.set_cons_zero]
    refine wpAnyY_takeD (i := 14) 152 (v := .int .i64 gn) rfl rfl (by kernel_rfl) (by kernel_rfl) (late_of (by kernel_rfl)) (by kernel_rfl) (by kernel_rfl) (fun _ _ _ h => h) HS2.out (Or.inl ⟨by rfl, by (intro W hW; obtain ⟨e0, e1, e2, e3, e4, e5, e6, e7, e8, e9⟩ := hW; go_simp)⟩) ?_
    simp only [Act.put, List.setIfInBounds_toArray, List.set_cons_succ, List.set_cons_zero]
    refine wpAnyY_pure (i := 15) 153 (v := .pointer (some ⟨p.b, 0, none⟩)) rfl rfl (by kernel_rfl) (by kernel_rfl) (by kernel_rfl) (fun _ _ _ h => h) (Or.inl ⟨by rfl, by (intro W _; go_simp)⟩) ?_
    simp only [Act.put, List.setIfInBounds_toArray, List.set_cons_succ, List.set_cons_zero]
    refine wpAnyY_pure (i := 16) 154 (v := .pointer (some ⟨p.b, 0, none⟩)) rfl rfl (by kernel_rfl) (by kernel_rfl) (by kernel_rfl) (fun _ _ _ h => h) (Or.inl ⟨by rfl, by (intro W _; go_simp)⟩) ?_
    simp only [Act.put, List.setIfInBounds_toArray, List.set_cons_succ, List.set_cons_zero]
    refine wpAnyY_pure (i := 17) 155 (v := .pointer (some ⟨p.b, 0, none⟩)) rfl rfl (by kernel_rfl) (by kernel_rfl) (by kernel_rfl) (fun _ _ _ h => h) (Or.inl ⟨by rfl, by (intro W _; go_simp)⟩) ?_
    simp only [Act.put, List.setIfInBounds_toArray, List.set_cons_succ, List.set_cons_zero]
    refine wpAnyY_pure (i := 18) 156 (v := .pointer (some ⟨p.b, 6, none⟩)) rfl rfl (by kernel_rfl) (by kernel_rfl) (by kernel_rfl) (fun _ _ _ h => h) (Or.inl ⟨by rfl, by (intro W _; go_simp)⟩) ?_
    simp only [Act.put, List.setIfInBounds_toArray, List.set_cons_succ, List.set_cons_zero]
    refine wpAnyY_takeD (i := 19) 157 (v := .slice (some ⟨tb, tof, none⟩) s.t.n s.t.c) rfl rfl (by kernel_rfl) (by kernel_rfl) (late_of (by kernel_rfl)) (by kernel_rfl) (by kernel_rfl) (fun _ _ _ h => h) HS2.out (Or.inl ⟨by rfl, by (intro W hW; obtain ⟨e0, e1, e2, e3, e4, e5, e6, e7, e8, e9⟩ := hW; go_simp)⟩) ?_
    simp only [Act.put, List.setIfInBounds_toArray, List.set_cons_succ, List.set_cons_zero]
    refine wpAnyY_pure (i := 20) 158 (v := .pointer (some ⟨p.b, 0, none⟩)) rfl rfl (by kernel_rfl) (by kernel_rfl) (by kernel_rfl) (fun _ _ _ h => h) (Or.inl ⟨by rfl, by (intro W _; go_simp)⟩) ?_
    simp only [Act.put, List.setIfInBounds_toArray, List.set_cons_succ, List.set_cons_zero]
    refine wpAnyY_pure (i := 21) 159 (v := .pointer (some ⟨p.b, 0, none⟩)) rfl rfl (by kernel_rfl) (by kernel_rfl) (by kernel_rfl) (fun _ _ _ h => h) (Or.inl ⟨by rfl, by (intro W _; go_simp)⟩) ?_
    simp only [Act.put, List.setIfInBounds_toArray, List.set_cons_succ, List.set_cons_zero]
    refine wpAnyY_pure (i := 22) 160 (v := .pointer (some ⟨p.b, 10, none⟩)) rfl rfl (by kernel_rfl) (by kernel_rfl) (by kernel_rfl) (fun _ _ _ h => h) (Or.inl ⟨by rfl, by (intro W _; go_simp)⟩) ?_
    simp only [Act.put, List.setIfInBounds_toArray, List.set_cons_succ, List.set_cons_zero]
    refine wpAnyY_takeD (i := 23) 161 (v := .slice (some ⟨xb, xo, none⟩) sx.n sx.c) rfl rfl (by kernel_rfl) (by kernel_rfl) (late_of (by kernel_rfl)) (by kernel_rfl) (by kernel_rfl) (fun _ _ _ h => h) HS2.out (Or.inl ⟨by rfl, by (intro W hW; obtain ⟨e0, e1, e2, e3, e4, e5, e6, e7, e8, e9⟩ := hW; go_simp)⟩) ?_
    simp only [Act.put, List.setIfInBounds_toArray, List.set_cons_succ, List.set_cons_zero]
    refine wpAnyY_pure (i := 24) 162 (v := .int .i64 (i : Int)) rfl rfl (by kernel_rfl) (by kernel_rfl) (by kernel_rfl) (fun _ _ _ h => h) (Or.inl ⟨by rfl, by (intro W _; go_simp)⟩) ?_
    simp only [Act.put, List.setIfInBounds_toArray, List.set_cons_succ, List.set_cons_zero]
    refine wpAnyY_pure (i := 25) 163 (v := .int .i64 (i1 : Int)) rfl rfl (by kernel_rfl) (by kernel_rfl) (by kernel_rfl) (fun _ _ _ h => h) (Or.inl ⟨by rfl, by (intro W _; go_simp)⟩) ?_
    simp only [Act.put, List.setIfInBounds_toArray, List.set_cons_succ, List.set_cons_zero]
    refine wpAnyY_pure (i := 26) 164 (v := .pointer (some ⟨xb, xo + i1, none⟩)) rfl rfl (by kernel_rfl) (by kernel_rfl) (by kernel_rfl) (fun _ _ _ h => h) (Or.inl ⟨by rfl, by (intro W _; go_simp)⟩) ?_
    simp only [Act.put, List.setIfInBounds_toArray, List.set_cons_succ, List.set_cons_zero]
    refine wpAnyY_takeD (i := 27) 165 (v := .int .i64 (u : Int)) rfl rfl (by kernel_rfl) (by kernel_rfl) (late_of (by kernel_rfl)) (by kernel_rfl) (by kernel_rfl) (fun _ _ _ h => h) HS2.out (Or.inl ⟨by rfl, by (intro W hW; obtain ⟨e0, e1, e2, e3, e4, e5, e6, e7, e8, e9⟩ := hW; go_simp)⟩) ?_
    simp only [Act.put, List.setIfInBounds_toArray, List.set_cons_succ, List.set_cons_zero]
    refine wpAnyY_pure (i := 28) 166 (v := .pointer (some ⟨p.b, 0, none⟩)) rfl rfl (by kernel_rfl) (by kernel_rfl) (by kernel_rfl) (fun _ _ _ h => h) (Or.inl ⟨by rfl, by (intro W _; go_simp)⟩) ?_
    simp only [Act.put, List.setIfInBounds_toArray, List.set_cons_succ, List.set_cons_zero]
    refine wpAnyY_pure (i := 29) 167 (v := .pointer (some ⟨p.b, 0, none⟩)) rfl rfl (by kernel_rfl) (by kernel_rfl) (by kernel_rfl) (fun _ _ _ h => h) (Or.inl ⟨by rfl, by (intro W _; go_simp)⟩) ?_
    simp only [Act.put, List.setIfInBounds_toArray, List.set_cons_succ, List.set_cons_zero]
    refine wpAnyY_pure (i := 30) 168 (v := .pointer (some ⟨p.b, 0, none⟩)) rfl rfl (by kernel_rfl) (by kernel_rfl) (by kernel_rfl) (fun _ _ _ h => h) (Or.inl ⟨by rfl, by (intro W _; go_simp)⟩) ?_
    simp only [Act.put, List.setIfInBounds_toArray, List.set_cons_succ, List.set_cons_zero]
    refine wpAnyY_pure (i := 31) 169 (v := .pointer (some ⟨p.b, 0, none⟩)) rfl rfl (by kernel_rfl) (by kernel_rfl) (by kernel_rfl) (fun _ _ _ h => h) (Or.inl ⟨by rfl, by (intro W _; go_simp)⟩) ?_
    simp only [Act.put, List.setIfInBounds_toArray, List.set_cons_succ, List.set_cons_zero]
    refine wpAnyY_takeD (i := 32) 170 (v := .int .i64 (L : Int)) rfl rfl (by kernel_rfl) (by kernel_rfl) (late_of (by kernel_rfl)) (by kernel_rfl) (by kernel_rfl) (fun _ _ _ h => h) HS2.out (Or.inl ⟨by rfl, by (intro W hW; obtain ⟨e0, e1, e2, e3, e4, e5, e6, e7, e8, e9⟩ := hW; go_simp)⟩) ?_
    simp only [Act.put, List.setIfInBounds_toArray, List.set_cons_succ, List.set_cons_zero]
    refine wpAnyY_pure (i := 33) 171 (v := .int .i64 (m : Int)) rfl rfl (by kernel_rfl) (by kernel_rfl) (by kernel_rfl) (fun _ _ _ h => h) (Or.inl ⟨by rfl, by (intro W _; go_simp)⟩) ?_
    simp only [Act.put, List.setIfInBounds_toArray, List.set_cons_succ, List.set_cons_zero]
    refine wpAnyY_pure (i := 34) 172 (v := .pointer (some ⟨p.b, 0, none⟩)) rfl rfl (by kernel_rfl) (by kernel_rfl) (by kernel_rfl) (fun _ _ _ h => h) (Or.inl ⟨by rfl, by (intro W _; go_simp)⟩) ?_
    simp only [Act.put, List.setIfInBounds_toArray, List.set_cons_succ, List.set_cons_zero]
    refine wpAnyY_pure (i := 35) 173 (v := .pointer (some ⟨p.b, 0, none⟩)) rfl rfl (by kernel_rfl) (by kernel_rfl) (by kernel_rfl) (fun _ _ _ h => h) (Or.inl ⟨by rfl, by (intro W _; go_simp)⟩) ?_
    simp only [Act.put, List.setIfInBounds_toArray, List.set_cons_succ, List.set_cons_zero]
    refine wpAnyY_pure (i := 36) 174 (v := .pointer (some ⟨p.b, 11, none⟩)) rfl rfl (by kernel_rfl) (by kernel_rfl) (by kernel_rfl) (fun _ _ _ h => h) (Or.inl ⟨by rfl, by (intro W _; go_simp)⟩) ?_
    simp only [Act.put, List.setIfInBounds_toArray, List.set_cons_succ, List.set_cons_zero]
    refine wpAnyY_takeD (i := 37) 175 (v := .slice (some ⟨yb, yo, none⟩) sy.n sy.c) rfl rfl (by kernel_rfl) (by kernel_rfl) (late_of (by kernel_rfl)) (by kernel_rfl) (by kernel_rfl) (fun _ _ _ h => h) HS2.out (Or.inl ⟨by rfl, by (intro W hW; obtain ⟨e0, e1, e2, e3, e4, e5, e6, e7, e8, e9⟩ := hW; go_simp)⟩) ?_
    simp only [Act.put, List.setIfInBounds_toArray, List.set_cons_succ, List.set_cons_zero]
    refine wpAnyY_pure (i := 38) 176 (v := .int .i64 (j : Int)) rfl rfl (by kernel_rfl) (by kernel_rfl) (by kernel_rfl) (fun _ _ _ h => h) (Or.inl ⟨by rfl, by (intro W _; go_simp)⟩) ?_
    simp only [Act.put, List.setIfInBounds_toArray, List.set_cons_succ, List.set_cons_zero]
    refine wpAnyY_pure (i := 39) 177 (v := .int .i64 (j1 : Int)) rfl rfl (by kernel_rfl) (by kernel_rfl) (by kernel_rfl) (fun _ _ _ h => h) (Or.inl ⟨by rfl, by (intro W _; go_simp)⟩) ?_
    simp only [Act.put, List.setIfInBounds_toArray, List.set_cons_succ, List.set_cons_zero]
    refine wpAnyY_pure (i := 40) 178 (v := .pointer (some ⟨yb, yo + j1, none⟩)) rfl rfl (by kernel_rfl) (by kernel_rfl) (by kernel_rfl) (fun _ _ _ h => h) (Or.inl ⟨by rfl, by (intro W _; go_simp)⟩) ?_
    simp only [Act.put, List.setIfInBounds_toArray, List.set_cons_succ, List.set_cons_zero]
    refine wpAnyY_takeD (i := 41) 179 (v := .int .i64 (v : Int)) rfl rfl (by kernel_rfl) (by kernel_rfl) (late_of (by kernel_rfl)) (by kernel_rfl) (by kernel_rfl) (fun _ _ _ h => h) HS2.out (Or.inl ⟨by rfl, by (intro W hW; obtain ⟨e0, e1, e2, e3, e4, e5, e6, e7, e8, e9⟩ := hW; go_simp)⟩) ?_
    simp only [Act.put, List.setIfInBounds_toArray, List.set_cons_succ, List.set_cons_zero]
    refine wpAnyY_pure (i := 42) 180 (v := .int .i64 (t : Int)) rfl rfl (by kernel_rfl) (by kernel_rfl) (by kernel_rfl) (fun _ _ _ h => h) (Or.inl ⟨by rfl, by (intro W _; go_simp)⟩) ?_
    simp only [Act.put, List.setIfInBounds_toArray, List.set_cons_succ, List.set_cons_zero]
    refine wpAnyY_pure (i := 43) 181 (v := .pointer (some ⟨tb, tof + t, none⟩)) rfl rfl (by kernel_rfl) (by kernel_rfl) (by kernel_rfl) (fun _ _ _ h => h) (Or.inl ⟨by rfl, by (intro W _; go_simp)⟩) ?_
    simp only [Act.put, List.setIfInBounds_toArray, List.set_cons_succ, List.set_cons_zero]
    refine wpAnyY_takeD (i := 44) 182 (v := .int .i64 tv) rfl rfl (by kernel_rfl) (by kernel_rfl) (late_of (by kernel_rfl)) (by kernel_rfl) (by kernel_rfl) (fun _ _ _ h => h) HS2.out (Or.inl ⟨by rfl, by (intro W hW; obtain ⟨e0, e1, e2, e3, e4, e5, e6, e7, e8, e9⟩ := hW; go_simp)⟩) ?_
    simp only [Act.put, List.setIfInBounds_toArray, List.set_cons_succ, List.set_cons_zero]
    refine wpAnyY_pure (i := 45) 183 (v := .int .i64 (IntKind.i64.wrap (gn + tv))) rfl rfl (by kernel_rfl) (by kernel_rfl) (by kernel_rfl) (fun _ _ _ h => h) (Or.inl ⟨by rfl, by (intro W _; go_simp)⟩) ?_
    simp only [Act.put, List.setIfInBounds_toArray, List.set_cons_succ, List.set_cons_zero]
    refine wpAnyY_pure (i := 46) 184 (v := .pointer (some ⟨p.gb, a * 3, none⟩)) rfl rfl (by kernel_rfl) (by kernel_rfl) (by kernel_rfl) (fun _ _ _ h => h) (Or.inl ⟨by rfl, by (intro W _; go_simp)⟩) ?_
    simp only [Act.put, List.setIfInBounds_toArray, List.set_cons_succ, List.set_cons_zero]
    refine wpAnyY_pure (i := 47) 185 (v := .pointer (some ⟨p.gb, a * 3 + 1, none⟩)) rfl rfl (by kernel_rfl) (by kernel_rfl) (by kernel_rfl) (fun _ _ _ h => h) (Or.inl ⟨by rfl, by (intro W _; go_simp)⟩) ?_
    simp only [Act.put, List.setIfInBounds_toArray, List.set_cons_succ, List.set_cons_zero]
    refine wpAnyY_one (i := 48) rfl (by kernel_rfl) (fun Kc hKc => ?_)
    go_simp
    refine hKc.out _ _ (fun h => absurd h (by decide)) ?_
    clear hKc Kc
    refine wpAnyY_done (by kernel_rfl) ?_ _
    go_wp2
    go_end0
    exact ⟨rfl, _, HF.out⟩
end

end Go.Proofs.YtnkfibahkmmnpaaGreat
namespace Go.Proofs.YtnkfibahkmmnpaaGreat
open Go.RowKit

theorem act8 (c : Cd) (x y : List Int) (i j : Nat) (M : Ms) (a b r : Int) : actB c x y i j M (8, a, b, r) = if ((atB c.planes.toNat x.length y.length M.slots a i j).has && metB r (decide (i = x.length)) (decide (j = y.length))) = true then { M with ends := endB M.ends a.toNat i j (wrap64 ((atB c.planes.toNat x.length y.length M.slots a i j).num + c.consts.getD b.toNat 0)) } else M := rfl
section
variable {w0 w : World} {p : Dp} {c : Cd} {s : Ls} {sx sy se : Sl} {x y : List Int} {M : Ms} {st : Int}
set_option maxRecDepth 10000 in
set_option maxHeartbeats 4000000 in
theorem dstep8 (h : Dt w0 w p c s sx sy x y se M st) (i j a b r : Nat) (hxy : (x.length + 1) * (y.length + 1) ≤ 1048576) (hP10 : c.planes.toNat ≤ 10) (ha : a < c.planes.toNat) (hb : b < c.consts.length) (hr : r < 4) (hi : i ≤ x.length) (hj : j ≤ y.length) :
    Calls Tryz.prog 18 #[.pointer (some ⟨p.b, 0, none⟩), .agg #[.int .i64 8, .int .i64 (a : Int), .int .i64 (b : Int), .int .i64 (r : Int)], .int .i64 (i : Int), .int .i64 (j : Int)] w (SpPost w0 p c s sx sy x y (actB c x y i j M (8, (a : Int), (b : Int), (r : Int))) st) := by
  have H0 : Hid (Dt w0 (w.alloc (.cells #[.int .i64 8, .int .i64 (a : Int), .int .i64 (b : Int), .int .i64 (r : Int)] 65)) p c s sx sy x y se M st ∧ (w.alloc (.cells #[.int .i64 8, .int .i64 (a : Int), .int .i64 (b : Int), .int .i64 (r : Int)] 65)).heap[w.heap.size]? = some (.cells #[.int .i64 8, .int .i64 (a : Int), .int .i64 (b : Int), .int .i64 (r : Int)] 65 (0, 0))) := ⟨h.next (below_new _), heap_alloc_new _ _⟩
  obtain ⟨R, hR⟩ : ∃ R, c.regs.toNat = R := ⟨_, rfl⟩
  have HR : Hid (c.regs.toNat = R) := hR
  obtain ⟨P, hP⟩ : ∃ P, c.planes.toNat = P := ⟨_, rfl⟩
  have HPl : Hid (c.planes.toNat = P) := hP
  have hkn := h.cd.consts.length
  obtain ⟨kb, ko, hsk, hkc⟩ := h.cd.consts.cells (by omega)
  have HKv0 := hkc b (by omega)
  have hbi : (b : Int) < (s.k.n : Int) := by omega
  have HK7 : Hid (∀ W, Dt w0 W p c s sx sy x y se M st → W.cell? ⟨p.b, 7, none⟩ = some (.slice (some ⟨kb, ko, none⟩) s.k.n s.k.c)) := fun W hW => by rw [← hsk]; exact hW.cell 7 rfl
  have hxn := h.hx.length
  have hyn := h.hy.length
  have HMt : Hid (∀ W, Calls Tryz.prog 36 #[.int .i64 (r : Int), .int .i64 (i : Int), .int .i64 (j : Int), .int .i64 (sx.n : Int), .int .i64 (sy.n : Int)] W fun e w' => e = .returned (.bool (metB (r : Int) (decide (i = x.length)) (decide (j = y.length)))) ∧ W = w') := fun W => by
    have := dmet_calls (r : Int) (i : Int) (j : Int) (sx.n : Int) (sy.n : Int) (by omega) W
    rw [show decide ((i : Int) = (sx.n : Int)) = decide (i = x.length) by rw [Bool.eq_iff_iff, decide_eq_true_eq, decide_eq_true_eq]; omega, show decide ((j : Int) = (sy.n : Int)) = decide (j = y.length) by rw [Bool.eq_iff_iff, decide_eq_true_eq, decide_eq_true_eq]; omega] at this
    exact this
  have HPc : Hid (∀ W, Dt w0 W p c s sx sy x y se M st → Calls Tryz.prog 39 #[.pointer (some ⟨p.b, 0, none⟩), .int .i64 (i : Int), .int .i64 (j : Int)] W fun e w' => e = .returned (.int .i64 ((i * (y.length + 1) + j : Nat) : Int)) ∧ W = w') := fun W hW => dplace_calls hW i j hi hj hxy
  have HEn : Hid (∀ W (n : Int), Dt w0 W p c s sx sy x y se M st → Calls Tryz.prog 40 #[.pointer (some ⟨p.b, 0, none⟩), .int .i64 (a : Int), .int .i64 n, .int .i64 (i : Int), .int .i64 (j : Int)] W (EndPost w0 p c s sx sy x y M (endB M.ends a i j n) st)) := fun W n hW => dends_calls hW hP10 a ha n i j
  have hat := at_lt hi hj
  have hV : atB c.planes.toNat x.length y.length M.slots (a : Int) (i : Int) (j : Int) = M.slots ((i * (y.length + 1) + j) * c.planes.toNat + a) := atB_in ha hi hj
  rw [act8, hV]
  simp only [Int.toNat_natCast]
  have HO0 : ∀ W, Dt w0 W p c s sx sy x y se M st → W.cell? ⟨p.ob, a, none⟩ = some (.slice (some ⟨p.rb a, 0, none⟩) ((x.length + 1) * (y.length + 1)) ((x.length + 1) * (y.length + 1))) := fun W hW => hW.orow ha
  have HRw0 : ∀ W, Dt w0 W p c s sx sy x y se M st → W.heap[p.rb a]? = some (.cells (dlC (fun k => M.slots (k * c.planes.toNat + a)) ((x.length + 1) * (y.length + 1))) 103 (0, 0)) := fun W hW => hW.row a ha
  have hai : (a : Int) < (P : Int) := by omega
  obtain ⟨n, hn⟩ : ∃ n, (x.length + 1) * (y.length + 1) = n := ⟨_, rfl⟩
  obtain ⟨at1, hat1⟩ : ∃ t, i * (y.length + 1) + j = t := ⟨_, rfl⟩
  obtain ⟨rbq, hrbq⟩ : ∃ t, p.rb a = t := ⟨_, rfl⟩
  obtain ⟨kv, hkv⟩ : ∃ kv, c.consts.getD b 0 = kv := ⟨_, rfl⟩
  rw [hkv] at HKv0 ⊢
  rw [hn, hat1] at hat
  rw [hat1] at HPc ⊢
  rw [hn, hrbq] at HO0 HRw0
  have hati : (at1 : Int) < (n : Int) := by omega
  have HAt : Hid (at1 < n) := hat
  have HKv : Hid (w0.cell? ⟨kb, ko + b, none⟩ = some (.int .i64 kv)) := HKv0
  have HO : Hid (∀ W, Dt w0 W p c s sx sy x y se M st → W.cell? ⟨p.ob, a, none⟩ = some (.slice (some ⟨rbq, 0, none⟩) n n)) := HO0
  have HRw : Hid (∀ W, Dt w0 W p c s sx sy x y se M st → W.heap[rbq]? = some (.cells (dlC (fun k => M.slots (k * c.planes.toNat + a)) n) 103 (0, 0))) := HRw0
  obtain ⟨tM, htM⟩ : ∃ tM, (if ((M.slots (at1 * c.planes.toNat + a)).has && metB (r : Int) (decide (i = x.length)) (decide (j = y.length))) = true then { M with ends := endB M.ends a (i : Int) (j : Int) (wrap64 ((M.slots (at1 * c.planes.toNat + a)).num + kv)) } else M : Ms) = tM := ⟨_, rfl⟩
  have HTM : Hid ((if ((M.slots (at1 * c.planes.toNat + a)).has && metB (r : Int) (decide (i = x.length)) (decide (j = y.length))) = true then { M with ends := endB M.ends a (i : Int) (j : Int) (wrap64 ((M.slots (at1 * c.planes.toNat + a)).num + kv)) } else M : Ms) = tM) := htM
  rw [htM]
  clear h hR hP hxy ha hi hj hn hat1 hrbq hat HO0 HRw0 hkc hsk hkn hkv HKv0 hxn hyn hV htM hb hr hP10
  obtain ⟨mt, hmt⟩ : ∃ mt, metB (r : Int) (decide (i = x.length)) (decide (j = y.length)) = mt := ⟨_, rfl⟩
  rw [hmt] at HMt HTM
  clear hmt
  go_enter Tryz.func18, Tryz.ntmps18
  go_wp2_with fail
  refine (HPc.out _ H0.out.1).mono ?_
  rintro e w1 ⟨rfl, rfl⟩
  clear HPc
  go_upto_region 26 with (fail)
  obtain ⟨wd, hwd⟩ : ∃ wd, wd = w.alloc (.cells #[.int .i64 8, .int .i64 (a : Int), .int .i64 (b : Int), .int .i64 (r : Int)] 65) := ⟨_, rfl⟩
  rw [← hwd] at H0 ⊢
  clear hwd
  have hrow := HRw.out _ H0.out.1
  have r0 := rc_has hrow HAt.out
  have r1 := rc_num hrow HAt.out
  have r2 := rc_mask hrow HAt.out
  clear hrow
  generalize M.slots (at1 * c.planes.toNat + a) = V at *
  obtain ⟨vh, vm, vn⟩ := V
  simp only at r0 r1 r2 HTM
  have HS : Hid ((fun W : World => W.cell? ⟨p.b, 12, none⟩ = some (.slice (some ⟨p.ob, 0, none⟩) P p.oc) ∧ W.cell? ⟨w.heap.size, 1, none⟩ = some (.int .i64 (a : Int)) ∧ W.cell? ⟨p.ob, a, none⟩ = some (.slice (some ⟨rbq, 0, none⟩) n n) ∧ W.cell? ⟨rbq, at1 * 3, none⟩ = some (.bool vh) ∧ W.cell? ⟨rbq, at1 * 3 + 1, none⟩ = some (.int .i64 vn) ∧ W.cell? ⟨rbq, at1 * 3 + 2, none⟩ = some (.int .i64 vm)) wd.drew) := ⟨H0.out.1.c12 HPl.out, cell_block H0.out.2 1 _ rfl, HO.out _ H0.out.1.drew, r0, r1, r2⟩
  refine wp_region_Y (fun j => [12].contains j) (fun W : World => W.cell? ⟨p.b, 12, none⟩ = some (.slice (some ⟨p.ob, 0, none⟩) P p.oc) ∧ W.cell? ⟨w.heap.size, 1, none⟩ = some (.int .i64 (a : Int)) ∧ W.cell? ⟨p.ob, a, none⟩ = some (.slice (some ⟨rbq, 0, none⟩) n n) ∧ W.cell? ⟨rbq, at1 * 3, none⟩ = some (.bool vh) ∧ W.cell? ⟨rbq, at1 * 3 + 1, none⟩ = some (.int .i64 vn) ∧ W.cell? ⟨rbq, at1 * 3 + 2, none⟩ = some (.int .i64 vm)) (by kernel_rfl) ?_
  refine wpAnyY_pure (i := 0) 244 (v := .pointer (some ⟨p.b, 0, none⟩)) rfl rfl (by kernel_rfl) (by kernel_rfl) (by kernel_rfl) (fun _ _ _ h => h) (Or.inl ⟨by rfl, by (intro W _; go_simp)⟩) ?_
  simp only [Act.put, List.setIfInBounds_toArray, List.set_cons_succ, List.set_cons_zero]
  refine wpAnyY_pure (i := 1) 245 (v := .pointer (some ⟨p.b, 0, none⟩)) rfl rfl (by kernel_rfl) (by kernel_rfl) (by kernel_rfl) (fun _ _ _ h => h) (Or.inl ⟨by rfl, by (intro W _; go_simp)⟩) ?_
  simp only [Act.put, List.setIfInBounds_toArray, List.set_cons_succ, List.set_cons_zero]
  refine wpAnyY_pure (i := 2) 246 (v := .pointer (some ⟨p.b, 12, none⟩)) rfl rfl (by kernel_rfl) (by kernel_rfl) (by kernel_rfl) (fun _ _ _ h => h) (Or.inl ⟨by rfl, by (intro W _; go_simp)⟩) ?_
  simp only [Act.put, List.setIfInBounds_toArray, List.set_cons_succ, List.set_cons_zero]
  refine wpAnyY_takeD (i := 3) 247 (v := .slice (some ⟨p.ob, 0, none⟩) P p.oc) rfl rfl (by kernel_rfl) (by kernel_rfl) (late_of (by kernel_rfl)) (by kernel_rfl) (by kernel_rfl) (fun _ _ _ h => h) HS.out (Or.inl ⟨by rfl, by (intro W hW; obtain ⟨e0, e1, e2, e3, e4, e5⟩ := hW; go_simp)⟩) ?_
  simp only [Act.put, List.setIfInBounds_toArray, List.set_cons_succ, List.set_cons_zero]
  refine wpAnyY_pure (i := 4) 248 (v := .pointer (some ⟨w.heap.size, 1, none⟩)) rfl rfl (by kernel_rfl) (by kernel_rfl) (by kernel_rfl) (fun _ _ _ h => h) (Or.inl ⟨by rfl, by (intro W _; go_simp)⟩) ?_
  simp only [Act.put, List.setIfInBounds_toArray, List.set_cons_succ, List.set_cons_zero]
  refine wpAnyY_takeD (i := 5) 249 (v := .int .i64 (a : Int)) rfl rfl (by kernel_rfl) (by kernel_rfl) (late_of (by kernel_rfl)) (by kernel_rfl) (by kernel_rfl) (fun _ _ _ h => h) HS.out (Or.inl ⟨by rfl, by (intro W hW; obtain ⟨e0, e1, e2, e3, e4, e5⟩ := hW; go_simp)⟩) ?_
  simp only [Act.put, List.setIfInBounds_toArray, List.set_cons_succ, List.set_cons_zero]
  refine wpAnyY_pure (i := 6) 250 (v := .pointer (some ⟨p.ob, a, none⟩)) rfl rfl (by kernel_rfl) (by kernel_rfl) (by kernel_rfl) (fun _ _ _ h => h) (Or.inl ⟨by rfl, by (intro W _; go_simp)⟩) ?_
  simp only [Act.put, List.setIfInBounds_toArray, List.set_cons_succ, List.set_cons_zero]
  refine wpAnyY_takeD (i := 7) 251 (v := .slice (some ⟨rbq, 0, none⟩) n n) rfl rfl (by kernel_rfl) (by kernel_rfl) (late_of (by kernel_rfl)) (by kernel_rfl) (by kernel_rfl) (fun _ _ _ h => h) HS.out (Or.inl ⟨by rfl, by (intro W hW; obtain ⟨e0, e1, e2, e3, e4, e5⟩ := hW; go_simp)⟩) ?_
  simp only [Act.put, List.setIfInBounds_toArray, List.set_cons_succ, List.set_cons_zero]
  refine wpAnyY_pure (i := 8) 252 (v := .int .i64 (at1 : Int)) rfl rfl (by kernel_rfl) (by kernel_rfl) (by kernel_rfl) (fun _ _ _ h => h) (Or.inl ⟨by rfl, by (intro W _; go_simp)⟩) ?_
  simp only [Act.put, List.setIfInBounds_toArray, List.set_cons_succ, List.set_cons_zero]
  refine wpAnyY_pure (i := 9) 253 (v := .pointer (some ⟨rbq, at1 * 3, none⟩)) rfl rfl (by kernel_rfl) (by kernel_rfl) (by kernel_rfl) (fun _ _ _ h => h) (Or.inl ⟨by rfl, by (intro W _; go_simp)⟩) ?_
  simp only [Act.put, List.setIfInBounds_toArray, List.set_cons_succ, List.set_cons_zero]
  refine wpAnyY_takeD (i := 10) 254 (v := .agg #[.bool vh, .int .i64 vn, .int .i64 vm]) rfl rfl (by kernel_rfl) (by kernel_rfl) (late_of (by kernel_rfl)) (by kernel_rfl) (by kernel_rfl) (fun _ _ _ h => h) HS.out (Or.inl ⟨by rfl, by (intro W hW; obtain ⟨e0, e1, e2, e3, e4, e5⟩ := hW; go_simp)⟩) ?_
  simp only [Act.put, List.setIfInBounds_toArray, List.set_cons_succ, List.set_cons_zero]
  refine wpAnyY_one (i := 11) rfl (by kernel_rfl) (fun Kc hKc => ?_)
  go_simp
  refine hKc.out _ _ (fun _ h => ⟨cell_al h.1 _, cell_al h.2.1 _, cell_al h.2.2.1 _, cell_al h.2.2.2.1 _, cell_al h.2.2.2.2.1 _, cell_al h.2.2.2.2.2 _⟩) ?_
  clear hKc Kc
  refine wpAnyY_one (i := 12) rfl (by kernel_rfl) (fun Kc hKc => ?_)
  go_simp
  refine hKc.out _ _ (fun h => absurd h (by decide)) ?_
  clear hKc Kc
  refine wpAnyY_done (by kernel_rfl) ?_ _
  clear HS r0 r1 r2
  have H2 : Hid (Dt w0 (wd.alloc (.cells #[.bool vh, .int .i64 vn, .int .i64 vm] 103)).drew p c s sx sy x y se M st ∧ (wd.alloc (.cells #[.bool vh, .int .i64 vn, .int .i64 vm] 103)).drew.heap[w.heap.size]? = some (.cells #[.int .i64 8, .int .i64 (a : Int), .int .i64 (b : Int), .int .i64 (r : Int)] 65 (0, 0)) ∧ (wd.alloc (.cells #[.bool vh, .int .i64 vn, .int .i64 vm] 103)).drew.heap[wd.heap.size]? = some (.cells #[.bool vh, .int .i64 vn, .int .i64 vm] 103 (0, 0))) :=
    ⟨(H0.out.1.next (below_new _)).drew, by show (wd.alloc (.cells #[.bool vh, .int .i64 vn, .int .i64 vm] 103)).heap[w.heap.size]? = _; rw [(below_new _).block _ (lt_block H0.out.2)]; exact H0.out.2, heap_alloc_new _ _⟩
  obtain ⟨vb, hvb⟩ : ∃ vb, wd.heap.size = vb := ⟨_, rfl⟩
  obtain ⟨wz, hwz⟩ : ∃ wz, wz = (wd.alloc (.cells #[.bool vh, .int .i64 vn, .int .i64 vm] 103)).drew := ⟨_, rfl⟩
  rw [← hwz, hvb] at H2 ⊢
  clear hwz hvb H0 HO HRw HAt
  go_upto_region 27 with (fail)
  have HS : Hid ((fun W : World => W.cell? ⟨w.heap.size, 3, none⟩ = some (.int .i64 (r : Int)) ∧ W.cell? ⟨p.b, 10, none⟩ = some (.slice sx.a sx.n sx.c) ∧ W.cell? ⟨p.b, 11, none⟩ = some (.slice sy.a sy.n sy.c)) wz.drew) := ⟨cell_block H2.out.2.1 3 _ rfl, H2.out.1.drew.cell 10 rfl, H2.out.1.drew.cell 11 rfl⟩
  refine wp_region_Y (fun j => [].contains j) (fun W : World => W.cell? ⟨w.heap.size, 3, none⟩ = some (.int .i64 (r : Int)) ∧ W.cell? ⟨p.b, 10, none⟩ = some (.slice sx.a sx.n sx.c) ∧ W.cell? ⟨p.b, 11, none⟩ = some (.slice sy.a sy.n sy.c)) (by kernel_rfl) ?_
  refine wpAnyY_pure (i := 0) 255 (v := .pointer (some ⟨w.heap.size, 3, none⟩)) rfl rfl (by kernel_rfl) (by kernel_rfl) (by kernel_rfl) (fun _ _ _ h => h) (Or.inl ⟨by rfl, by (intro W _; go_simp)⟩) ?_
  simp only [Act.put, List.setIfInBounds_toArray, List.set_cons_succ, List.set_cons_zero]
  refine wpAnyY_takeD (i := 1) 256 (v := .int .i64 (r : Int)) rfl rfl (by kernel_rfl) (by kernel_rfl) (late_of (by kernel_rfl)) (by kernel_rfl) (by kernel_rfl) (fun _ _ _ h => h) HS.out (Or.inl ⟨by rfl, by (intro W hW; obtain ⟨e0, e1, e2⟩ := hW; go_simp)⟩) ?_
  simp only [Act.put, List.setIfInBounds_toArray, List.set_cons_succ, List.set_cons_zero]
  refine wpAnyY_pure (i := 2) 257 (v := .int .i64 (i : Int)) rfl rfl (by kernel_rfl) (by kernel_rfl) (by kernel_rfl) (fun _ _ _ h => h) (Or.inl ⟨by rfl, by (intro W _; go_simp)⟩) ?_
  simp only [Act.put, List.setIfInBounds_toArray, List.set_cons_succ, List.set_cons_zero]
  refine wpAnyY_pure (i := 3) 258 (v := .int .i64 (j : Int)) rfl rfl (by kernel_rfl) (by kernel_rfl) (by kernel_rfl) (fun _ _ _ h => h) (Or.inl ⟨by rfl, by (intro W _; go_simp)⟩) ?_
  simp only [Act.put, List.setIfInBounds_toArray, List.set_cons_succ, List.set_cons_zero]
  refine wpAnyY_pure (i := 4) 259 (v := .pointer (some ⟨p.b, 0, none⟩)) rfl rfl (by kernel_rfl) (by kernel_rfl) (by kernel_rfl) (fun _ _ _ h => h) (Or.inl ⟨by rfl, by (intro W _; go_simp)⟩) ?_
  simp only [Act.put, List.setIfInBounds_toArray, List.set_cons_succ, List.set_cons_zero]
  refine wpAnyY_pure (i := 5) 260 (v := .pointer (some ⟨p.b, 0, none⟩)) rfl rfl (by kernel_rfl) (by kernel_rfl) (by kernel_rfl) (fun _ _ _ h => h) (Or.inl ⟨by rfl, by (intro W _; go_simp)⟩) ?_
  simp only [Act.put, List.setIfInBounds_toArray, List.set_cons_succ, List.set_cons_zero]
  refine wpAnyY_pure (i := 6) 261 (v := .pointer (some ⟨p.b, 10, none⟩)) rfl rfl (by kernel_rfl) (by kernel_rfl) (by kernel_rfl) (fun _ _ _ h => h) (Or.inl ⟨by rfl, by (intro W _; go_simp)⟩) ?_
  simp only [Act.put, List.setIfInBounds_toArray, List.set_cons_succ, List.set_cons_zero]
  refine wpAnyY_takeD (i := 7) 262 (v := .slice sx.a sx.n sx.c) rfl rfl (by kernel_rfl) (by kernel_rfl) (late_of (by kernel_rfl)) (by kernel_rfl) (by kernel_rfl) (fun _ _ _ h => h) HS.out (Or.inl ⟨by rfl, by (intro W hW; obtain ⟨e0, e1, e2⟩ := hW; go_simp)⟩) ?_
  simp only [Act.put, List.setIfInBounds_toArray, List.set_cons_succ, List.set_cons_zero]
  refine wpAnyY_pure (i := 8) 263 (v := .int .i64 (sx.n : Int)) rfl rfl (by kernel_rfl) (by kernel_rfl) (by kernel_rfl) (fun _ _ _ h => h) (Or.inl ⟨by rfl, by (intro W _; go_simp)⟩) ?_
  simp only [Act.put, List.setIfInBounds_toArray, List.set_cons_succ, List.set_cons_zero]
  refine wpAnyY_pure (i := 9) 264 (v := .pointer (some ⟨p.b, 0, none⟩)) rfl rfl (by kernel_rfl) (by kernel_rfl) (by kernel_rfl) (fun _ _ _ h => h) (Or.inl ⟨by rfl, by (intro W _; go_simp)⟩) ?_
  simp only [Act.put, List.setIfInBounds_toArray, List.set_cons_succ, List.set_cons_zero]
  refine wpAnyY_pure (i := 10) 265 (v := .pointer (some ⟨p.b, 0, none⟩)) rfl rfl (by kernel_rfl) (by kernel_rfl) (by kernel_rfl) (fun _ _ _ h => h) (Or.inl ⟨by rfl, by (intro W _; go_simp)⟩) ?_
  simp only [Act.put, List.setIfInBounds_toArray, List.set_cons_succ, List.set_cons_zero]
  refine wpAnyY_pure (i := 11) 266 (v := .pointer (some ⟨p.b, 11, none⟩)) rfl rfl (by kernel_rfl) (by kernel_rfl) (by kernel_rfl) (fun _ _ _ h => h) (Or.inl ⟨by rfl, by (intro W _; go_simp)⟩) ?_
  simp only [Act.put, List.setIfInBounds_toArray, List.set_cons_succ, List.set_cons_zero]
  refine wpAnyY_takeD (i := 12) 267 (v := .slice sy.a sy.n sy.c) rfl rfl (by kernel_rfl) (by kernel_rfl) (late_of (by kernel_rfl)) (by kernel_rfl) (by kernel_rfl) (fun _ _ _ h => h) HS.out (Or.inl ⟨by rfl, by (intro W hW; obtain ⟨e0, e1, e2⟩ := hW; go_simp)⟩) ?_
  simp only [Act.put, List.setIfInBounds_toArray, List.set_cons_succ, List.set_cons_zero]
  refine wpAnyY_pure (i := 13) 268 (v := .int .i64 (sy.n : Int)) rfl rfl (by kernel_rfl) (by kernel_rfl) (by kernel_rfl) (fun _ _ _ h => h) (Or.inl ⟨by rfl, by (intro W _; go_simp)⟩) ?_
  simp only [Act.put, List.setIfInBounds_toArray, List.set_cons_succ, List.set_cons_zero]
  refine wpAnyY_one (i := 14) rfl (by kernel_rfl) (fun Kc hKc => ?_)
  refine step_fnD 269 rfl (by rfl) 36 _ _ rfl Tryz.f36 Tryz.func36 (by kernel_rfl) (by kernel_rfl) #[.int .i64 (r : Int), .int .i64 (i : Int), .int .i64 (j : Int), .int .i64 (sx.n : Int), .int .i64 (sy.n : Int)] (by simp [Act.eval]) (HMt.out _) ?_
  rintro e w1 ⟨rfl, rfl⟩
  refine ⟨_, rfl, hKc.out _ _ (fun _ h => h) ?_⟩
  clear hKc Kc
  simp only [Act.put, List.setIfInBounds_toArray, List.set_cons_succ, List.set_cons_zero]
  refine wpAnyY_pure (i := 15) 12 (v := .bool mt) rfl rfl (by kernel_rfl) (by kernel_rfl) (by kernel_rfl) (fun _ _ _ h => h) (Or.inl ⟨by rfl, by (intro W _; go_simp)⟩) ?_
  simp only [Act.put, List.setIfInBounds_toArray, List.set_cons_succ, List.set_cons_zero]
  refine wpAnyY_done (by kernel_rfl) ?_ _
  clear HS HMt
  obtain ⟨wy, hwy⟩ : ∃ wy, wy = wz.drew := ⟨_, rfl⟩
  have H3 : Hid (Dt w0 wy p c s sx sy x y se M st ∧ wy.heap[w.heap.size]? = some (.cells #[.int .i64 8, .int .i64 (a : Int), .int .i64 (b : Int), .int .i64 (r : Int)] 65 (0, 0)) ∧ wy.heap[vb]? = some (.cells #[.bool vh, .int .i64 vn, .int .i64 vm] 103 (0, 0))) := by rw [hwy]; exact ⟨H2.out.1.drew, H2.out.2⟩
  rw [← hwy]
  clear hwy H2
  have v0 := cell_block H3.out.2.2 0 _ rfl
  cases mt with
  | false =>
    have htm : M = tM := by rw [← HTM.out, Bool.and_false]; rfl
    subst htm
    clear HTM HEn
    go_wp2
    go_end0
    exact ⟨rfl, _, H3.out.1⟩
  | true =>
    cases vh with
    | false =>
      have htm : M = tM := by rw [← HTM.out]; rfl
      subst htm
      clear HTM HEn
      go_wp2
      go_end0
      exact ⟨rfl, _, H3.out.1⟩
    | true =>
      have htm : ({ M with ends := endB M.ends a (i : Int) (j : Int) (wrap64 (vn + kv)) } : Ms) = tM := by rw [← HTM.out]; rfl
      subst htm
      clear HTM
      rw [wrap_is]
      go_upto_region 29 with (fail)
      have HS : Hid ((fun W : World => W.cell? ⟨w.heap.size, 1, none⟩ = some (.int .i64 (a : Int)) ∧ W.cell? ⟨vb, 1, none⟩ = some (.int .i64 vn) ∧ W.cell? ⟨p.b, 7, none⟩ = some (.slice (some ⟨kb, ko, none⟩) s.k.n s.k.c) ∧ W.cell? ⟨w.heap.size, 2, none⟩ = some (.int .i64 (b : Int)) ∧ W.cell? ⟨kb, ko + b, none⟩ = some (.int .i64 kv)) wy.drew) := ⟨cell_block H3.out.2.1 1 _ rfl, cell_block H3.out.2.2 1 _ rfl, HK7.out _ H3.out.1.drew, cell_block H3.out.2.1 2 _ rfl, cell_bl H3.out.1.low HKv.out⟩
      refine wp_region_Y (fun j => [17].contains j) (fun W : World => W.cell? ⟨w.heap.size, 1, none⟩ = some (.int .i64 (a : Int)) ∧ W.cell? ⟨vb, 1, none⟩ = some (.int .i64 vn) ∧ W.cell? ⟨p.b, 7, none⟩ = some (.slice (some ⟨kb, ko, none⟩) s.k.n s.k.c) ∧ W.cell? ⟨w.heap.size, 2, none⟩ = some (.int .i64 (b : Int)) ∧ W.cell? ⟨kb, ko + b, none⟩ = some (.int .i64 kv)) (by kernel_rfl) ?_
      refine wpAnyY_pure (i := 0) 275 (v := .pointer (some ⟨p.b, 0, none⟩)) rfl rfl (by kernel_rfl) (by kernel_rfl) (by kernel_rfl) (fun _ _ _ h => h) (Or.inl ⟨by rfl, by (intro W _; go_simp)⟩) ?_
      simp only [Act.put, List.setIfInBounds_toArray, List.set_cons_succ, List.set_cons_zero]
      refine wpAnyY_pure (i := 1) 276 (v := .pointer (some ⟨w.heap.size, 1, none⟩)) rfl rfl (by kernel_rfl) (by kernel_rfl) (by kernel_rfl) (fun _ _ _ h => h) (Or.inl ⟨by rfl, by (intro W _; go_simp)⟩) ?_
      simp only [Act.put, List.setIfInBounds_toArray, List.set_cons_succ, List.set_cons_zero]
      refine wpAnyY_takeD (i := 2) 277 (v := .int .i64 (a : Int)) rfl rfl (by kernel_rfl) (by kernel_rfl) (late_of (by kernel_rfl)) (by kernel_rfl) (by kernel_rfl) (fun _ _ _ h => h) HS.out (Or.inl ⟨by rfl, by (intro W hW; obtain ⟨e0, e1, e2, e3, e4⟩ := hW; go_simp)⟩) ?_
      simp only [Act.put, List.setIfInBounds_toArray, List.set_cons_succ, List.set_cons_zero]
      refine wpAnyY_pure (i := 3) 278 (v := .pointer (some ⟨vb, 1, none⟩)) rfl rfl (by kernel_rfl) (by kernel_rfl) (by kernel_rfl) (fun _ _ _ h => h) (Or.inl ⟨by rfl, by (intro W _; go_simp)⟩) ?_
      simp only [Act.put, List.setIfInBounds_toArray, List.set_cons_succ, List.set_cons_zero]
      refine wpAnyY_takeD (i := 4) 279 (v := .int .i64 vn) rfl rfl (by kernel_rfl) (by kernel_rfl) (late_of (by kernel_rfl)) (by kernel_rfl) (by kernel_rfl) (fun _ _ _ h => h) HS.out (Or.inl ⟨by rfl, by (intro W hW; obtain ⟨e0, e1, e2, e3, e4⟩ := hW; go_simp)⟩) ?_
      simp only [Act.put, List.setIfInBounds_toArray, List.set_cons_succ, List.set_cons_zero]
      refine wpAnyY_pure (i := 5) 280 (v := .pointer (some ⟨p.b, 0, none⟩)) rfl rfl (by kernel_rfl) (by kernel_rfl) (by kernel_rfl) (fun _ _ _ h => h) (Or.inl ⟨by rfl, by (intro W _; go_simp)⟩) ?_
      simp only [Act.put, List.setIfInBounds_toArray, List.set_cons_succ, List.set_cons_zero]
      refine wpAnyY_pure (i := 6) 281 (v := .pointer (some ⟨p.b, 0, none⟩)) rfl rfl (by kernel_rfl) (by kernel_rfl) (by kernel_rfl) (fun _ _ _ h => h) (Or.inl ⟨by rfl, by (intro W _; go_simp)⟩) ?_
      simp only [Act.put, List.setIfInBounds_toArray, List.set_cons_succ, List.set_cons_zero]
      refine wpAnyY_pure (i := 7) 282 (v := .pointer (some ⟨p.b, 0, none⟩)) rfl rfl (by kernel_rfl) (by kernel_rfl) (by kernel_rfl) (fun _ _ _ h => h) (Or.inl ⟨by rfl, by (intro W _; go_simp)⟩) ?_
      simp only [Act.put, List.setIfInBounds_toArray, List.set_cons_succ, List.set_cons_zero]
      refine wpAnyY_pure (i := 8) 283 (v := .pointer (some ⟨p.b, 7, none⟩)) rfl rfl (by kernel_rfl) (by kernel_rfl) (by kernel_rfl) (fun _ _ _ h => h) (Or.inl ⟨by rfl, by (intro W _; go_simp)⟩) ?_
      simp only [Act.put, List.setIfInBounds_toArray, List.set_cons_succ, List.set_cons_zero]
      refine wpAnyY_takeD (i := 9) 284 (v := .slice (some ⟨kb, ko, none⟩) s.k.n s.k.c) rfl rfl (by kernel_rfl) (by kernel_rfl) (late_of (by kernel_rfl)) (by kernel_rfl) (by kernel_rfl) (fun _ _ _ h => h) HS.out (Or.inl ⟨by rfl, by (intro W hW; obtain ⟨e0, e1, e2, e3, e4⟩ := hW; go_simp)⟩) ?_
      simp only [Act.put, List.setIfInBounds_toArray, List.set_cons_succ, List.set_cons_zero]
      refine wpAnyY_pure (i := 10) 285 (v := .pointer (some ⟨w.heap.size, 2, none⟩)) rfl rfl (by kernel_rfl) (by kernel_rfl) (by kernel_rfl) (fun _ _ _ h => h) (Or.inl ⟨by rfl, by (intro W _; go_simp)⟩) ?_
      simp only [Act.put, List.setIfInBounds_toArray, List.set_cons_succ, List.set_cons_zero]
      refine wpAnyY_takeD (i := 11) 286 (v := .int .i64 (b : Int)) rfl rfl (by kernel_rfl) (by kernel_rfl) (late_of (by kernel_rfl)) (by kernel_rfl) (by kernel_rfl) (fun _ _ _ h => h) HS.out (Or.inl ⟨by rfl, by (intro W hW; obtain ⟨e0, e1, e2, e3, e4⟩ := hW; go_simp)⟩) ?_
      simp only [Act.put, List.setIfInBounds_toArray, List.set_cons_succ, List.set_cons_zero]
      refine wpAnyY_pure (i := 12) 287 (v := .pointer (some ⟨kb, ko + b, none⟩)) rfl rfl (by kernel_rfl) (by kernel_rfl) (by kernel_rfl) (fun _ _ _ h => h) (Or.inl ⟨by rfl, by (intro W _; go_simp)⟩) ?_
      simp only [Act.put, List.setIfInBounds_toArray, List.set_cons_succ, List.set_cons_zero]
      refine wpAnyY_takeD (i := 13) 288 (v := .int .i64 kv) rfl rfl (by kernel_rfl) (by kernel_rfl) (late_of (by kernel_rfl)) (by kernel_rfl) (by kernel_rfl) (fun _ _ _ h => h) HS.out (Or.inl ⟨by rfl, by (intro W hW; obtain ⟨e0, e1, e2, e3, e4⟩ := hW; go_simp)⟩) ?_
      simp only [Act.put, List.setIfInBounds_toArray, List.set_cons_succ, List.set_cons_zero]
      refine wpAnyY_pure (i := 14) 289 (v := .int .i64 (IntKind.i64.wrap (vn + kv))) rfl rfl (by kernel_rfl) (by kernel_rfl) (by kernel_rfl) (fun _ _ _ h => h) (Or.inl ⟨by rfl, by (intro W _; go_simp)⟩) ?_
      simp only [Act.put, List.setIfInBounds_toArray, List.set_cons_succ, List.set_cons_zero]
      refine wpAnyY_pure (i := 15) 290 (v := .int .i64 (i : Int)) rfl rfl (by kernel_rfl) (by kernel_rfl) (by kernel_rfl) (fun _ _ _ h => h) (Or.inl ⟨by rfl, by (intro W _; go_simp)⟩) ?_
      simp only [Act.put, List.setIfInBounds_toArray, List.set_cons_succ, List.set_cons_zero]
      refine wpAnyY_pure (i := 16) 291 (v := .int .i64 (j : Int)) rfl rfl (by kernel_rfl) (by kernel_rfl) (by kernel_rfl) (fun _ _ _ h => h) (Or.inl ⟨by rfl, by (intro W _; go_simp)⟩) ?_
      simp only [Act.put, List.setIfInBounds_toArray, List.set_cons_succ, List.set_cons_zero]
      refine wpAnyY_one (i := 17) rfl (by kernel_rfl) (fun Kc hKc => ?_)
      refine step_fnD 292 rfl (by rfl) 40 _ _ rfl Tryz.f40 Tryz.func40 (by kernel_rfl) (by kernel_rfl) #[.pointer (some ⟨p.b, 0, none⟩), .int .i64 (a : Int), .int .i64 (IntKind.i64.wrap (vn + kv)), .int .i64 (i : Int), .int .i64 (j : Int)] (by simp [Act.eval]) (HEn.out _ _ H3.out.1.drew) ?_
      rintro e w2 ⟨rfl, se2, hD⟩
      refine ⟨_, rfl, hKc.out _ _ (fun h => absurd h (by decide)) ?_⟩
      clear hKc Kc
      simp only [Act.put, List.setIfInBounds_toArray, List.set_cons_succ, List.set_cons_zero]
      have HF : Hid (Dt w0 w2 p c s sx sy x y se2 { M with ends := endB M.ends a i j (wrap64 (vn + kv)) } st) := by rw [wrap_is]; exact hD
      clear hD
      refine wpAnyY_done (by kernel_rfl) ?_ _
      go_wp2
      go_end0
      exact ⟨rfl, _, HF.out⟩
theorem tstep_calls (hg : Gk c) (h : Dt w0 w p c s sx sy x y se M st) (hn : Nrm c x.length y.length M) (hxy : (x.length + 1) * (y.length + 1) ≤ 1048576) (hx6 : x.length ≤ 65536) (hy6 : y.length ≤ 65536) (hlx : ∀ k, k < x.length → 0 ≤ x.getD k 0 ∧ x.getD k 0 < c.letters) (hly : ∀ k, k < y.length → 0 ≤ y.getD k 0 ∧ y.getD k 0 < c.letters) {q : Qd} (hq : q ∈ c.cell) (i j : Nat) (hi : i ≤ x.length) (hj : j ≤ y.length) :
    Calls Tryz.prog 18 #[.pointer (some ⟨p.b, 0, none⟩), .agg #[.int .i64 q.1, .int .i64 q.2.1, .int .i64 q.2.2.1, .int .i64 q.2.2.2], .int .i64 (i : Int), .int .i64 (j : Int)] w (SpPost w0 p c s sx sy x y (actB c x y i j M q) st) := by
  have hnm := hg.nam hq
  have hrt := hg.rt
  obtain ⟨op, a, b, r⟩ := q
  simp only at hnm ⊢
  obtain ⟨⟨ho1, ho2⟩, ⟨ha1, ha2⟩, ⟨hb1, hb2⟩, hr1, hr2⟩ := hnm
  obtain ⟨an, rfl⟩ := Int.eq_ofNat_of_zero_le ha1
  obtain ⟨bn, rfl⟩ := Int.eq_ofNat_of_zero_le hb1
  obtain ⟨rn, rfl⟩ := Int.eq_ofNat_of_zero_le hr1
  have hpl := hrt.planes
  have hrg := hrt.regs
  have : op = 1 ∨ op = 2 ∨ op = 3 ∨ op = 4 ∨ op = 5 ∨ op = 6 ∨ op = 7 ∨ op = 8 := by omega
  clear ho1 ho2
  rcases this with rfl | rfl | rfl | rfl | rfl | rfl | rfl | rfl
  · have e1 : (limB c 1).1 = c.regs := rfl
    rw [e1] at ha2
    exact dstep1 h i j an bn rn (by omega)
  · have e1 : (limB c 2).1 = c.regs := rfl
    have e2 : (limB c 2).2.1 = (c.consts.length : Int) := rfl
    have e3 : (limB c 2).2.2 = 4 := rfl
    rw [e1] at ha2; rw [e2] at hb2; rw [e3] at hr2
    exact dstep2 h i j an bn rn (by omega) (by omega) (by omega)
  · have e1 : (limB c 3).1 = c.regs := rfl
    have e2 : (limB c 3).2.1 = c.planes := rfl
    have e3 : (limB c 3).2.2 = 4 := rfl
    rw [e1] at ha2; rw [e2] at hb2; rw [e3] at hr2
    exact dstep3 h i j an bn rn hn hxy (by omega) (by omega) (by omega) hi hj hx6 hy6
  · have e1 : (limB c 4).1 = c.regs := rfl
    have e2 : (limB c 4).2.1 = (c.consts.length : Int) := rfl
    rw [e1] at ha2; rw [e2] at hb2
    exact dstep4 h i j an bn rn (by omega) (by omega)
  · have e1 : (limB c 5).1 = c.regs := rfl
    rw [e1] at ha2
    by_cases he : i = 0 ∨ j = 0
    · exact dstep5e h i j an bn rn (by omega) he
    · obtain ⟨i1, rfl⟩ : ∃ i1, i = i1 + 1 := ⟨i - 1, by omega⟩
      obtain ⟨j1, rfl⟩ : ∃ j1, j = j1 + 1 := ⟨j - 1, by omega⟩
      exact dstep5i h i1 j1 an bn rn (by omega) hi hj (by have := hrt.letters; omega) (hlx i1 (by omega)) (hly j1 (by omega)) hg.tbl
  · have e1 : (limB c 6).1 = c.regs := rfl
    have e2 : (limB c 6).2.1 = c.regs := rfl
    have e3 : (limB c 6).2.2 = 16 := rfl
    rw [e1] at ha2; rw [e2] at hb2; rw [e3] at hr2
    exact dstep6 h i j an bn rn hn.ok (by omega) (by omega) (by omega)
  · have e1 : (limB c 7).1 = c.planes := rfl
    have e2 : (limB c 7).2.1 = c.regs := rfl
    rw [e1] at ha2; rw [e2] at hb2
    exact dstep7 h i j an bn rn hxy (by omega) (by omega) hi hj
  · have e1 : (limB c 8).1 = c.planes := rfl
    have e2 : (limB c 8).2.1 = (c.consts.length : Int) := rfl
    have e3 : (limB c 8).2.2 = 4 := rfl
    rw [e1] at ha2; rw [e2] at hb2; rw [e3] at hr2
    exact dstep8 h i j an bn rn hxy (by omega) (by omega) (by omega) (by omega) hi hj
end

end Go.Proofs.YtnkfibahkmmnpaaGreat
namespace Go.Proofs.YtnkfibahkmmnpaaGreat
open Go.RowKit

theorem made88 (n : Nat) : madeCells #[.bool false, .int .i64 0, .int .i64 0] (n * 3) = dlC (fun _ => ct0) n := by
  apply Array.ext_getElem?
  intro j
  by_cases hj : j < n * 3
  · have e2 : (dlC (fun _ => ct0) n)[j]? = some (dcV ct0 (j % 3)) := by simp [dlC, hj]
    rw [e2]
    have : j % 3 = 0 ∨ j % 3 = 1 ∨ j % 3 = 2 := by omega
    rcases this with e | e | e <;> simp [madeCells, hj, e, dcV, ct0]
  · rw [Array.getElem?_eq_none (by simp [madeCells]; omega), Array.getElem?_eq_none (by rw [dlC_size]; omega)]
theorem info88 : (Tryz.prog.info? 103).map (fun i => (i.zero, i.size, i.bytes)) = some (some (.agg #[.bool false, .int .i64 0, .int .i64 0]), 3, 24) := by kernel_rfl
theorem info57 : (Tryz.prog.info? 57).map (fun i => (i.zero, i.size, i.bytes)) = some (some (.slice none 0 0), 1, 24) := by kernel_rfl
theorem make_cells (n : Nat) (hn : n ≤ 1048576) (W : World) : (Instr.makeSlice 57 (.int .i64 n) (.int .i64 n)).run Tryz.prog W = .ok (.slice (some ⟨W.heap.size, 0, none⟩) n n) (W.alloc (.cells (dlC (fun _ => ct0) n) 103)) := by
  obtain ⟨i, hi, hz, hs, hb⟩ := info_parts info88
  have := run_make (P := Tryz.prog) W 57 103 i _ Tryz.underlying57 hi hz .i64 .i64 n n (by omega) (by omega) (by rw [hb]; omega) (by omega)
  rw [this, hs, Int.toNat_natCast, ← made88]; rfl
def rowsV (n : Nat) (rbs : List Nat) : List Value := rbs.map fun b => Value.slice (some ⟨b, 0, none⟩) n n
def tmCells (c : Cd) (s : Ls) (sx sy : Sl) (v : Value) (gb R : Nat) : Array Value :=
  #[.int .i64 c.letters, .int .i64 c.planes, .int .i64 c.regs, .int .i64 c.lo, .int .i64 c.hi, .int .i64 c.most, .slice s.t.a s.t.n s.t.c, .slice s.k.a s.k.n s.k.c, .slice s.i.a s.i.n s.i.c, .slice s.r.a s.r.n s.r.c,
    .slice sx.a sx.n sx.c, .slice sy.a sy.n sy.c, v, .bool false, .int .i64 0, .int .i64 0, .int .i64 0, .slice none 0 0, .int .i64 0, .slice (some ⟨gb, 0, none⟩) R R]
structure Dm (w0 w : World) (b gb : Nat) (c : Cd) (s : Ls) (sx sy : Sl) (R n : Nat) (rbs : List Nat) (v : Value) : Prop where
  box : w.heap[b]? = some (.cells (tmCells c s sx sy v gb R) 61 (0, 0))
  own : w.ownsRow w0.heap.size 57 1 v rbs.length (rowsV n rbs)
  rows : ∀ r ∈ rbs, w.heap[r]? = some (.cells (dlC (fun _ => ct0) n) 103 (0, 0)) ∧ w0.heap.size ≤ r ∧ r ≠ gb
  nd : rbs.Nodup
  reg : w.heap[gb]? = some (.cells (dlC (fun _ => ct0) R) 103 (0, 0))
  low : Below w0.heap.size w0 w
  le : w0.heap.size ≤ b ∧ w0.heap.size ≤ gb
section
variable {w0 w w2 : World} {b gb : Nat} {c : Cd} {s : Ls} {sx sy : Sl} {R n : Nat} {rbs : List Nat} {v : Value}
theorem Dm.next (h : Dm w0 w b gb c s sx sy R n rbs v) (hb : Below w.heap.size w w2) : Dm w0 w2 b gb c s sx sy R n rbs v :=
  ⟨by rw [hb.block _ (lt_block h.box)]; exact h.box, owned_below h.own hb, fun r hr => ⟨by rw [hb.block _ (lt_block (h.rows r hr).1)]; exact (h.rows r hr).1, (h.rows r hr).2⟩, h.nd, by rw [hb.block _ (lt_block h.reg)]; exact h.reg, h.low.trans (hb.mono h.low.size), h.le⟩
theorem own_ty {B f m : Nat} {u : Value} {l : List Value} {cs : Array Value} {t : TypeId} (h : w.ownsRow B 57 1 u m l) (hf : w.heap[f]? = some (.cells cs t (0, 0))) (ht : t ≠ 57) : some f ≠ u.ownBlock := by
  intro e
  rcases h.2 with ⟨hv, _⟩ | ⟨g', cap', cur', hv, _, hg', _⟩
  · rw [hv] at e; cases e
  · rw [hv] at e; simp [Value.ownBlock] at e; subst e; rw [hg'] at hf; injection hf with hf; injection hf with _ h3; exact ht h3.symm
/-- A row more. -/
theorem Dm.more (h : Dm w0 w b gb c s sx sy R n rbs v) {wa : World} {v2 : Value} (ho : wa.ownsRow w0.heap.size 57 1 v2 (rbs.length + 1) (rowsV n rbs ++ [.slice (some ⟨w.heap.size, 0, none⟩) n n]))
    (hg : ((w.alloc (.cells (dlC (fun _ => ct0) n) 103)).alloc (.cells #[.slice (some ⟨w.heap.size, 0, none⟩) n n] 57)).grownBy wa v.ownBlock) : Dm w0 (wa.setCell ⟨b, 12, none⟩ v2) b gb c s sx sy R n (rbs ++ [w.heap.size]) v2 := by
  have h2 := (h.next (below_new (w := w) (.cells (dlC (fun _ => ct0) n) 103))).next (below_new (.cells #[.slice (some ⟨w.heap.size, 0, none⟩) n n] 57))
  have hnew : ((w.alloc (.cells (dlC (fun _ => ct0) n) 103)).alloc (.cells #[.slice (some ⟨w.heap.size, 0, none⟩) n n] 57)).heap[w.heap.size]? = some (.cells (dlC (fun _ => ct0) n) 103 (0, 0)) := by
    rw [(below_new _).block _ (by simp)]; exact heap_alloc_new _ _
  have hk : ∀ {f : Nat} {cs : Array Value} {t : TypeId}, ((w.alloc (.cells (dlC (fun _ => ct0) n) 103)).alloc (.cells #[.slice (some ⟨w.heap.size, 0, none⟩) n n] 57)).heap[f]? = some (.cells cs t (0, 0)) → t ≠ 57 → wa.heap[f]? = some (.cells cs t (0, 0)) := fun hf ht => by
    rw [hg.block _ (lt_block hf) (own_ty h2.own hf ht)]; exact hf
  have hbx := hk h2.box (by decide)
  have hle := h.low.size
  have hlow : Below w0.heap.size w0 wa := h2.low.grown hg h2.low.size (fun k hk => (h2.own.lt k hk).1)
  refine ⟨by rw [heap_setCell_same _ _ _ _ _ _ hbx]; rfl, ?_, fun r hr => ?_, ?_, ?_, hlow.setCell (p := ⟨b, 12, none⟩) h.le.1 _, h.le⟩
  · have e : rowsV n (rbs ++ [w.heap.size]) = rowsV n rbs ++ [.slice (some ⟨w.heap.size, 0, none⟩) n n] := by simp [rowsV]
    rw [e, List.length_append]
    exact owned_setOther ho hbx (by decide) _
  · rcases List.mem_append.1 hr with hm | hm
    · have h3 := h2.rows r hm
      have h4 := hk h3.1 (by decide)
      exact ⟨by rw [Below.heap_setCell _ _ _ _ (ty_ne h4 hbx (by decide))]; exact h4, h3.2⟩
    · obtain rfl : r = w.heap.size := by simpa using hm
      have h4 := hk hnew (by decide)
      exact ⟨by rw [Below.heap_setCell _ _ _ _ (ty_ne h4 hbx (by decide))]; exact h4, hle, fun e => by have := lt_block h.reg; omega⟩
  · rw [List.nodup_append]
    refine ⟨h.nd, by simp, fun a ha d hd e => ?_⟩
    obtain rfl : d = w.heap.size := by simpa using hd
    have := lt_block (h.rows a ha).1
    omega
  · have h4 := hk h2.reg (by decide)
    rw [Below.heap_setCell _ _ _ _ (ty_ne h4 hbx (by decide))]; exact h4
/-- The table, as it is made. -/
theorem Dm.done {x y : List Int} (h : Dm w0 w b gb c s sx sy c.regs.toNat ((x.length + 1) * (y.length + 1)) rbs v) (hP : rbs.length = c.planes.toNat) (h1 : 0 < c.planes.toNat) (hcd : CdAt w0 c s) (hx : IntsAt w0 sx.a sx.n x) (hy : IntsAt w0 sy.a sy.n y) :
    ∃ p se, p.b = b ∧ w0.heap.size ≤ p.ob ∧ Dt w0 w p c s sx sy x y se ms0 0 := by
  rcases h.own.2 with ⟨_, h0⟩ | ⟨ob, cap, cur, hv, hB, hg, hc1, hc2, hc3, hc4⟩
  · omega
  refine ⟨⟨b, ob, gb, fun q => rbs.getD q 0, cur, cap⟩, ⟨none, 0, 0⟩, rfl, hB, ⟨?_, hg, fun q hq => ?_, fun q hq => ?_, ?_, Or.inl ⟨rfl, rfl⟩, fun q r hq hr e => ?_, fun q hq => ?_, hcd, hx, hy, h.low, h.le.1, h.le.2, fun q hq => ?_⟩⟩
  · have := h.box
    rw [hv, hP] at this
    exact this
  · have e : (rowsV ((x.length + 1) * (y.length + 1)) rbs)[q]? = some (.slice (some ⟨rbs.getD q 0, 0, none⟩) ((x.length + 1) * (y.length + 1)) ((x.length + 1) * (y.length + 1))) := by
      unfold rowsV
      rw [List.getElem?_map, List.getD_eq_getElem?_getD, List.getElem?_eq_getElem (by omega)]
      rfl
    rw [← hc4, List.getElem?_take_of_lt (by omega)] at e
    simpa using e
  · have hm : rbs.getD q 0 ∈ rbs := by
      rw [List.getD_eq_getElem?_getD, List.getElem?_eq_getElem (by omega)]
      exact List.getElem_mem _
    exact (h.rows _ hm).1
  · refine h.reg.trans (congrArg (fun A => some (Obj.cells A 103 (0, 0))) (dlC_ext fun k _ => rfl))
  · have hq' : q < rbs.length := by omega
    have hr' : r < rbs.length := by omega
    have e' : rbs.getD q 0 = rbs.getD r 0 := e
    rw [List.getD_eq_getElem?_getD, List.getD_eq_getElem?_getD, List.getElem?_eq_getElem hq', List.getElem?_eq_getElem hr'] at e'
    have hp := List.pairwise_iff_getElem.1 h.nd
    rcases Nat.lt_trichotomy q r with hlt | heq | hlt
    · exact absurd e' (hp q r hq' hr' hlt)
    · exact heq
    · exact absurd e'.symm (hp r q hr' hq' hlt)
  · have hm : rbs.getD q 0 ∈ rbs := by
      rw [List.getD_eq_getElem?_getD, List.getElem?_eq_getElem (by omega)]
      exact List.getElem_mem _
    exact (h.rows _ hm).2.2
  · have hm : rbs.getD q 0 ∈ rbs := by
      rw [List.getD_eq_getElem?_getD, List.getElem?_eq_getElem (by omega)]
      exact List.getElem_mem _
    exact (h.rows _ hm).2.1
end
end Go.Proofs.YtnkfibahkmmnpaaGreat
