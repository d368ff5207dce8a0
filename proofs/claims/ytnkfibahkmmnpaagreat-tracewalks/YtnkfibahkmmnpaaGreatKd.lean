/-
  The act table, whole. And what follows.
-/
import Derived.Test.YtnkfibahkmmnpaaGreatMaW
namespace Go.Proofs.YtnkfibahkmmnpaaGreat
open Go.RowKit

section
variable {dq : Nat → Option (Array Value × Nat)} {w0 w : World} {b g gs : Nat} {c : Cd} {s : Ls} {sx sy sa : Sl} {x y : List Int} {i j : Nat} {M : Ms}
theorem table_in (h : Rn dq w0 w b g gs c s sx sy sa x y i j M) (o : Int) (p : Nat) (q r : Int) (hp : p < 16) (hi : 0 < i ∧ i ≤ x.length) (hj : 0 < j ∧ j ≤ y.length) (hL : 0 ≤ c.letters ∧ c.letters ≤ 20) (hx0 : 0 ≤ x.getD (i - 1) 0 ∧ x.getD (i - 1) 0 < c.letters) (hy0 : 0 ≤ y.getD (j - 1) 0 ∧ y.getD (j - 1) 0 < c.letters) (hn : (s.t.n : Int) = c.letters * c.letters) (hh : (M.regs p).has = true) :
    Calls Tryz.prog 58 #[.pointer (some ⟨b, 0, none⟩), .agg #[.int .i64 o, .int .i64 p, .int .i64 q, .int .i64 r]] w fun e w' => e = .returned (.tuple #[]) ∧ Rn dq w0 w' b g gs c s sx sy sa x y i j { M with regs := updC M.regs p ⟨(M.regs p).has, (M.regs p).mask, wrap64 ((M.regs p).num + c.table.getD (x.getD (i - 1) 0 * c.letters + y.getD (j - 1) 0).toNat 0)⟩ } := by
  have hX := h.hx.below h.low
  have hY := h.hy.below h.low
  have hT := h.cd.table.below h.low
  obtain ⟨l1, l2⟩ := h.tb.least
  have e1 := hX.length
  have e2 := hY.length
  have hA0 : 0 ≤ x.getD (i - 1) 0 * c.letters := Int.mul_nonneg hx0.1 hL.1
  have hA1 : x.getD (i - 1) 0 * c.letters ≤ 20 * 20 := Int.mul_le_mul (by omega) hL.2 hL.1 (by omega)
  have hA2 : (x.getD (i - 1) 0 + 1) * c.letters ≤ c.letters * c.letters := Int.mul_le_mul_of_nonneg_right (by omega) hL.1
  have hA3 : (x.getD (i - 1) 0 + 1) * c.letters = x.getD (i - 1) 0 * c.letters + c.letters := by rw [Int.add_mul, Int.one_mul]
  obtain ⟨kk, hk⟩ : ∃ kk : Nat, x.getD (i - 1) 0 * c.letters + y.getD (j - 1) 0 = kk := ⟨(x.getD (i - 1) 0 * c.letters + y.getD (j - 1) 0).toNat, by omega⟩
  have hkt : kk < s.t.n := by omega
  obtain ⟨xb, xo, ex, hxc⟩ := hX.cells (by omega)
  obtain ⟨yb, yo, ey, hyc⟩ := hY.cells (by omega)
  obtain ⟨tb, tt, et, htc⟩ := hT.cells (by omega)
  have x1 := hxc (i - 1) (by omega)
  have y1 := hyc (j - 1) (by omega)
  have t1 := htc kk hkt
  have ei : ((i - 1 : Nat) : Int) + 1 = (i : Int) := by omega
  have ej : ((j - 1 : Nat) : Int) + 1 = (j : Int) := by omega
  have hb := h.lt.1
  refine (table_walk (nm := (M.regs p).num) (L := c.letters) (A := x.getD (i - 1) 0 * c.letters) (kk := kk) (i1 := i - 1) (j1 := j - 1) (tn := s.t.n) (tc := s.t.c) (xn := sx.n) (xc := sx.c) (yn := sy.n) (yc := sy.c) hp hb ⟨h.reg (m := 2) hp (by omega), h.cell 7 (by omega) (by rw [← et]; rfl), h.cell 11 (by omega) (by rw [← ex]; rfl), h.cell 13 (by omega) (by rw [ei]; rfl), x1, h.cell 1 (by omega) rfl, h.cell 12 (by omega) (by rw [← ey]; rfl), h.cell 14 (by omega) (by rw [ej]; rfl), y1, t1⟩ (h.fz _) (by rw [← hh]; exact h.reg (m := 0) hp (by omega)) (by omega) (by omega) hkt rfl ⟨hA0, by omega⟩ hk (by omega) (by omega) (by omega) ⟨World.block_lt_of_cell? w _ x1, World.block_lt_of_cell? w _ y1, World.block_lt_of_cell? w _ t1⟩).mono ?_
  rintro e w' ⟨rfl, m, rfl⟩
  refine ⟨rfl, ?_⟩
  rw [hk]
  exact ((h.next (below_new _)).next (below_drewN (Below.refl _ _) m)).putN p _
set_option maxRecDepth 10000 in
set_option maxHeartbeats 1000000 in
theorem table_off (h : Rn dq w0 w b g gs c s sx sy sa x y i j M) (o : Int) (p : Nat) (q r : Int) (hp : p < 16) (hi : 0 < i) (hj : 0 < j) (hh : (M.regs p).has = false) :
    Calls Tryz.prog 58 #[.pointer (some ⟨b, 0, none⟩), .agg #[.int .i64 o, .int .i64 p, .int .i64 q, .int .i64 r]] w fun e w' => e = .returned (.tuple #[]) ∧ Rn dq w0 w' b g gs c s sx sy sa x y i j M := by
  have hlb := h.lt.1
  have HR : Hid (∀ o, Rn dq w0 (w.alloc o) b g gs c s sx sy sa x y i j M) := fun o => h.next (below_new o)
  clear h
  go_enter Tryz.func58, Tryz.ntmps58
  go_upto_region 1 with (fail)
  have HW := HR.out (.cells #[.int .i64 o, .int .i64 p, .int .i64 q, .int .i64 r] 65)
  have HB : Hid ((w.alloc (.cells #[.int .i64 o, .int .i64 p, .int .i64 q, .int .i64 r] 65)).heap[w.heap.size]? = some (.cells #[.int .i64 o, .int .i64 p, .int .i64 q, .int .i64 r] 65 (0, 0))) := heap_alloc_new _ _
  clear HR
  have HW2 : Hid (Rn dq w0 (w.alloc (.cells #[.int .i64 o, .int .i64 p, .int .i64 q, .int .i64 r] 65)) b g gs c s sx sy sa x y i j M) := HW
  clear HW
  generalize w.alloc (.cells #[.int .i64 o, .int .i64 p, .int .i64 q, .int .i64 r] 65) = wd at *
  generalize w.heap.size = gb at *
  have hlb2 := HW2.out.lt.1
  have q1 := cell_block HB.out 1 _ rfl
  have c13 := HW2.out.cell 13 (by omega) (v := .int .i64 i) rfl
  have c14 := HW2.out.cell 14 (by omega) (v := .int .i64 j) rfl
  have r0 : wd.cell? ⟨b, 15 + p * 3, none⟩ = some (.bool false) := by rw [← hh]; exact HW2.out.reg (m := 0) hp (by omega)
  have b0 : ((i : Int) == 0) = false := by simp; omega
  have b1 : ((j : Int) == 0) = false := by simp; omega
  go_quiet (fail)
  go_wp2
  go_end0
  exact ⟨rfl, HW2.out.next (below_drewN (Below.refl _ _) _)⟩
/-- The act table: what it makes of a register, at the edges and inside. -/
theorem table_calls (h : Rn dq w0 w b g gs c s sx sy sa x y i j M) (o : Int) (p : Nat) (q r : Int) (hp : p < 16) (hi : i ≤ x.length) (hj : j ≤ y.length) (hL : 0 ≤ c.letters ∧ c.letters ≤ 20) (hx0 : 0 < i → 0 ≤ x.getD (i - 1) 0 ∧ x.getD (i - 1) 0 < c.letters) (hy0 : 0 < j → 0 ≤ y.getD (j - 1) 0 ∧ y.getD (j - 1) 0 < c.letters) (hn : (s.t.n : Int) = c.letters * c.letters) :
    Calls Tryz.prog 58 #[.pointer (some ⟨b, 0, none⟩), .agg #[.int .i64 o, .int .i64 p, .int .i64 q, .int .i64 r]] w fun e w' => e = .returned (.tuple #[]) ∧ Rn dq w0 w' b g gs c s sx sy sa x y i j
      (if i = 0 ∨ j = 0 then { M with regs := updC M.regs p ⟨false, (M.regs p).mask, 0⟩ } else { M with regs := if (M.regs p).has then updC M.regs p ⟨(M.regs p).has, (M.regs p).mask, wrap64 ((M.regs p).num + c.table.getD (x.getD (i - 1) 0 * c.letters + y.getD (j - 1) 0).toNat 0)⟩ else M.regs }) := by
  by_cases he : i = 0 ∨ j = 0
  · rw [if_pos he]; exact table_edge h o p q r hp he
  · rw [if_neg he]
    cases hh : (M.regs p).has with
    | false => exact table_off h o p q r hp (by omega) (by omega) hh
    | true =>
      have := table_in h o p q r hp ⟨by omega, hi⟩ ⟨by omega, hj⟩ hL (hx0 (by omega)) (hy0 (by omega)) hn hh
      rw [hh] at this
      exact this
end
end Go.Proofs.YtnkfibahkmmnpaaGreat
namespace Go.Proofs.YtnkfibahkmmnpaaGreat
open Go.RowKit

section
variable {dq : Nat → Option (Array Value × Nat)} {w0 w : World} {b g gs : Nat} {c : Cd} {s : Ls} {sx sy sa : Sl} {x y : List Int} {i j : Nat} {M : Ms}
theorem back_small (r : Int) : 0 ≤ (backB r).1 ∧ (backB r).1 ≤ 1 ∧ 0 ≤ (backB r).2 ∧ (backB r).2 ≤ 1 := by
  unfold backB
  split
  · decide
  split
  · decide
  split
  · decide
  · decide
set_option maxRecDepth 10000 in
set_option maxHeartbeats 2000000 in
theorem load_calls (h : Rn dq w0 w b g gs c s sx sy sa x y i j M) (o : Int) (p : Nat) (q r : Int) (hp : p < 16) (hi : i ≤ x.length) (hj : j ≤ y.length) :
    Calls Tryz.prog 56 #[.pointer (some ⟨b, 0, none⟩), .agg #[.int .i64 o, .int .i64 p, .int .i64 q, .int .i64 r]] w fun e w' => e = .returned (.tuple #[]) ∧ Rn dq w0 w' b g gs c s sx sy sa x y i j { M with regs := updC M.regs p ⟨(atB c.planes.toNat x.length y.length M.slots q ((i : Int) - (backB r).1) ((j : Int) - (backB r).2)).has, 0, (atB c.planes.toNat x.length y.length M.slots q ((i : Int) - (backB r).1) ((j : Int) - (backB r).2)).num⟩ } := by
  have hlb := h.lt.1
  obtain ⟨l1, l2⟩ := h.tb.least
  have hi2 : (i : Int) ≤ 1048576 := by omega
  have hj2 : (j : Int) ≤ 1048576 := by omega
  obtain ⟨u1, u2, v1, v2⟩ := back_small r
  have HC : Hid (∀ W, Calls Tryz.prog 84 #[.int .i64 r] W fun e w' => e = .returned (.tuple #[.int .i64 (backB r).1, .int .i64 (backB r).2]) ∧ W = w') := fun W => back_calls r W
  generalize (backB r).1 = u at *
  generalize (backB r).2 = v at *
  obtain ⟨F, hF⟩ : ∃ F, atB c.planes.toNat x.length y.length M.slots q ((i : Int) - u) ((j : Int) - v) = F := ⟨_, rfl⟩
  have HA : Hid (∀ W, Rn dq w0 W b g gs c s sx sy sa x y i j M → Calls Tryz.prog 85 #[.pointer (some ⟨g, 0, none⟩), .int .i64 q, .int .i64 ((i : Int) - u), .int .i64 ((j : Int) - v)] W fun e w' => e = .returned (.agg #[.bool F.has, .int .u16 F.mask, .int .i64 F.num]) ∧ Below W.heap.size W w') := fun W hW => by
    have := at_calls hW.tb q ((i : Int) - u) ((j : Int) - v)
    rw [hF] at this
    exact this
  rw [hF]
  clear hF l1 l2
  have HR : Hid (∀ o, Rn dq w0 (w.alloc o) b g gs c s sx sy sa x y i j M) := fun o => h.next (below_new o)
  clear h
  go_enter Tryz.func56, Tryz.ntmps56
  have HB : Hid ((w.alloc (.cells #[.int .i64 o, .int .i64 p, .int .i64 q, .int .i64 r] 65)).heap[w.heap.size]? = some (.cells #[.int .i64 o, .int .i64 p, .int .i64 q, .int .i64 r] 65 (0, 0))) := heap_alloc_new _ _
  go_upto_region 2 with (go_at_call 84; refine (HC.out _).mono ?_; rintro e w1 ⟨rfl, rfl⟩)
  have HW := HR.out (.cells #[.int .i64 o, .int .i64 p, .int .i64 q, .int .i64 r] 65)
  clear HR HC
  have HW2 : Hid (Rn dq w0 (w.alloc (.cells #[.int .i64 o, .int .i64 p, .int .i64 q, .int .i64 r] 65)) b g gs c s sx sy sa x y i j M) := HW
  clear HW
  generalize w.alloc (.cells #[.int .i64 o, .int .i64 p, .int .i64 q, .int .i64 r] 65) = wd at *
  generalize w.heap.size = gb at *
  have HW3 : Hid (Rn dq w0 wd.drew b g gs c s sx sy sa x y i j M) := HW2.out.drew
  have HB3 : Hid (wd.drew.heap[gb]? = some (.cells #[.int .i64 o, .int .i64 p, .int .i64 q, .int .i64 r] 65 (0, 0))) := HB.out
  have HS : Hid ((fun W : World => W.cell? ⟨b, 0, none⟩ = some (.pointer (some ⟨g, 0, none⟩)) ∧ W.cell? ⟨gb, 2, none⟩ = some (.int .i64 q) ∧ W.cell? ⟨b, 13, none⟩ = some (.int .i64 i) ∧ W.cell? ⟨b, 14, none⟩ = some (.int .i64 j)) wd.drew) :=
    ⟨HW3.out.cell 0 (by omega) rfl, cell_block HB.out 2 _ rfl, HW3.out.cell 13 (by omega) rfl, HW3.out.cell 14 (by omega) rfl⟩
  clear HB HW2
  refine wp_region_Y (fun j => [20, 22].contains j) (fun W : World => W.cell? ⟨b, 0, none⟩ = some (.pointer (some ⟨g, 0, none⟩)) ∧ W.cell? ⟨gb, 2, none⟩ = some (.int .i64 q) ∧ W.cell? ⟨b, 13, none⟩ = some (.int .i64 i) ∧ W.cell? ⟨b, 14, none⟩ = some (.int .i64 j)) (by kernel_rfl) ?_
  refine wpAnyY_pure (i := 0) 13 (v := .pointer (some ⟨b, 0, none⟩)) rfl rfl (by kernel_rfl) (by kernel_rfl) (by kernel_rfl) (fun _ _ _ h => h) (Or.inl ⟨by rfl, by (intro W _; go_simp)⟩) ?_
  simp only [Act.put, List.setIfInBounds_toArray, List.set_cons_succ, List.set_cons_zero]
  refine wpAnyY_pure (i := 1) 14 (v := .pointer (some ⟨b, 0, none⟩)) rfl rfl (by kernel_rfl) (by kernel_rfl) (by kernel_rfl) (fun _ _ _ h => h) (Or.inl ⟨by rfl, by (intro W _; go_simp)⟩) ?_
  simp only [Act.put, List.setIfInBounds_toArray, List.set_cons_succ, List.set_cons_zero]
  refine wpAnyY_pure (i := 2) 15 (v := .pointer (some ⟨b, 0, none⟩)) rfl rfl (by kernel_rfl) (by kernel_rfl) (by kernel_rfl) (fun _ _ _ h => h) (Or.inl ⟨by rfl, by (intro W _; go_simp)⟩) ?_
  simp only [Act.put, List.setIfInBounds_toArray, List.set_cons_succ, List.set_cons_zero]
  refine wpAnyY_takeD (i := 3) 16 (v := .pointer (some ⟨g, 0, none⟩)) rfl rfl (by kernel_rfl) (by kernel_rfl) (late_of (by kernel_rfl)) (by kernel_rfl) (by kernel_rfl) (fun _ _ _ h => h) HS.out (Or.inl ⟨by rfl, by (intro W hW; obtain ⟨e0, e1, e2, e3⟩ := hW; go_simp)⟩) ?_
  simp only [Act.put, List.setIfInBounds_toArray, List.set_cons_succ, List.set_cons_zero]
  refine wpAnyY_pure (i := 4) 17 (v := .pointer (some ⟨g, 0, none⟩)) rfl rfl (by kernel_rfl) (by kernel_rfl) (by kernel_rfl) (fun _ _ _ h => h) (Or.inl ⟨by rfl, by (intro W _; go_simp)⟩) ?_
  simp only [Act.put, List.setIfInBounds_toArray, List.set_cons_succ, List.set_cons_zero]
  refine wpAnyY_pure (i := 5) 18 (v := .pointer (some ⟨g, 0, none⟩)) rfl rfl (by kernel_rfl) (by kernel_rfl) (by kernel_rfl) (fun _ _ _ h => h) (Or.inl ⟨by rfl, by (intro W _; go_simp)⟩) ?_
  simp only [Act.put, List.setIfInBounds_toArray, List.set_cons_succ, List.set_cons_zero]
  refine wpAnyY_pure (i := 6) 19 (v := .pointer (some ⟨gb, 2, none⟩)) rfl rfl (by kernel_rfl) (by kernel_rfl) (by kernel_rfl) (fun _ _ _ h => h) (Or.inl ⟨by rfl, by (intro W _; go_simp)⟩) ?_
  simp only [Act.put, List.setIfInBounds_toArray, List.set_cons_succ, List.set_cons_zero]
  refine wpAnyY_takeD (i := 7) 20 (v := .int .i64 q) rfl rfl (by kernel_rfl) (by kernel_rfl) (late_of (by kernel_rfl)) (by kernel_rfl) (by kernel_rfl) (fun _ _ _ h => h) HS.out (Or.inl ⟨by rfl, by (intro W hW; obtain ⟨e0, e1, e2, e3⟩ := hW; go_simp)⟩) ?_
  simp only [Act.put, List.setIfInBounds_toArray, List.set_cons_succ, List.set_cons_zero]
  refine wpAnyY_pure (i := 8) 21 (v := .pointer (some ⟨b, 0, none⟩)) rfl rfl (by kernel_rfl) (by kernel_rfl) (by kernel_rfl) (fun _ _ _ h => h) (Or.inl ⟨by rfl, by (intro W _; go_simp)⟩) ?_
  simp only [Act.put, List.setIfInBounds_toArray, List.set_cons_succ, List.set_cons_zero]
  refine wpAnyY_pure (i := 9) 22 (v := .pointer (some ⟨b, 0, none⟩)) rfl rfl (by kernel_rfl) (by kernel_rfl) (by kernel_rfl) (fun _ _ _ h => h) (Or.inl ⟨by rfl, by (intro W _; go_simp)⟩) ?_
  simp only [Act.put, List.setIfInBounds_toArray, List.set_cons_succ, List.set_cons_zero]
  refine wpAnyY_pure (i := 10) 23 (v := .pointer (some ⟨b, 13, none⟩)) rfl rfl (by kernel_rfl) (by kernel_rfl) (by kernel_rfl) (fun _ _ _ h => h) (Or.inl ⟨by rfl, by (intro W _; go_simp)⟩) ?_
  simp only [Act.put, List.setIfInBounds_toArray, List.set_cons_succ, List.set_cons_zero]
  refine wpAnyY_takeD (i := 11) 24 (v := .int .i64 i) rfl rfl (by kernel_rfl) (by kernel_rfl) (late_of (by kernel_rfl)) (by kernel_rfl) (by kernel_rfl) (fun _ _ _ h => h) HS.out (Or.inl ⟨by rfl, by (intro W hW; obtain ⟨e0, e1, e2, e3⟩ := hW; go_simp)⟩) ?_
  simp only [Act.put, List.setIfInBounds_toArray, List.set_cons_succ, List.set_cons_zero]
  refine wpAnyY_pure (i := 12) 25 (v := .int .i64 u) rfl rfl (by kernel_rfl) (by kernel_rfl) (by kernel_rfl) (fun _ _ _ h => h) (Or.inl ⟨by rfl, by (intro W _; go_simp)⟩) ?_
  simp only [Act.put, List.setIfInBounds_toArray, List.set_cons_succ, List.set_cons_zero]
  refine wpAnyY_pure (i := 13) 26 (v := .int .i64 ((i : Int) - u)) rfl rfl (by kernel_rfl) (by kernel_rfl) (by kernel_rfl) (fun _ _ _ h => h) (Or.inl ⟨by rfl, by (intro W _; go_simp; all_goals (first | exact IntWalk.i64_left _ | exact (IntWalk.i64_left _).trans (by unfold wrap64; omega)))⟩) ?_
  simp only [Act.put, List.setIfInBounds_toArray, List.set_cons_succ, List.set_cons_zero]
  refine wpAnyY_pure (i := 14) 27 (v := .pointer (some ⟨b, 0, none⟩)) rfl rfl (by kernel_rfl) (by kernel_rfl) (by kernel_rfl) (fun _ _ _ h => h) (Or.inl ⟨by rfl, by (intro W _; go_simp)⟩) ?_
  simp only [Act.put, List.setIfInBounds_toArray, List.set_cons_succ, List.set_cons_zero]
  refine wpAnyY_pure (i := 15) 28 (v := .pointer (some ⟨b, 0, none⟩)) rfl rfl (by kernel_rfl) (by kernel_rfl) (by kernel_rfl) (fun _ _ _ h => h) (Or.inl ⟨by rfl, by (intro W _; go_simp)⟩) ?_
  simp only [Act.put, List.setIfInBounds_toArray, List.set_cons_succ, List.set_cons_zero]
  refine wpAnyY_pure (i := 16) 29 (v := .pointer (some ⟨b, 14, none⟩)) rfl rfl (by kernel_rfl) (by kernel_rfl) (by kernel_rfl) (fun _ _ _ h => h) (Or.inl ⟨by rfl, by (intro W _; go_simp)⟩) ?_
  simp only [Act.put, List.setIfInBounds_toArray, List.set_cons_succ, List.set_cons_zero]
  refine wpAnyY_takeD (i := 17) 30 (v := .int .i64 j) rfl rfl (by kernel_rfl) (by kernel_rfl) (late_of (by kernel_rfl)) (by kernel_rfl) (by kernel_rfl) (fun _ _ _ h => h) HS.out (Or.inl ⟨by rfl, by (intro W hW; obtain ⟨e0, e1, e2, e3⟩ := hW; go_simp)⟩) ?_
  simp only [Act.put, List.setIfInBounds_toArray, List.set_cons_succ, List.set_cons_zero]
  refine wpAnyY_pure (i := 18) 31 (v := .int .i64 v) rfl rfl (by kernel_rfl) (by kernel_rfl) (by kernel_rfl) (fun _ _ _ h => h) (Or.inl ⟨by rfl, by (intro W _; go_simp)⟩) ?_
  simp only [Act.put, List.setIfInBounds_toArray, List.set_cons_succ, List.set_cons_zero]
  refine wpAnyY_pure (i := 19) 32 (v := .int .i64 ((j : Int) - v)) rfl rfl (by kernel_rfl) (by kernel_rfl) (by kernel_rfl) (fun _ _ _ h => h) (Or.inl ⟨by rfl, by (intro W _; go_simp; all_goals (first | exact IntWalk.i64_left _ | exact (IntWalk.i64_left _).trans (by unfold wrap64; omega)))⟩) ?_
  simp only [Act.put, List.setIfInBounds_toArray, List.set_cons_succ, List.set_cons_zero]
  refine wpAnyY_two (i := 20) (j := 21) rfl rfl (by kernel_rfl) (fun Kc hKc => ?_) (fun Kc hKc => ?_)
  · refine step_fnD 33 rfl (by rfl) 85 _ _ rfl Tryz.f85 Tryz.func85 (by kernel_rfl) (by kernel_rfl) #[.pointer (some ⟨g, 0, none⟩), .int .i64 q, .int .i64 ((i : Int) - u), .int .i64 ((j : Int) - v)] (by simp [Act.eval]) (HA.out _ HW3.out) ?_
    rintro e w1 ⟨rfl, hd⟩
    refine ⟨_, rfl, hKc.out _ _ (fun h => absurd h (by decide)) ?_⟩
    clear hKc Kc
    simp only [Act.put, List.setIfInBounds_toArray, List.set_cons_succ, List.set_cons_zero]
    refine wpAnyY_one (i := 21) rfl (by kernel_rfl) (fun Kc hKc => ?_)
    go_simp
    refine hKc.out _ _ (fun _ h => ⟨cell_al h.1 _, cell_al h.2.1 _, cell_al h.2.2.1 _, cell_al h.2.2.2 _⟩) ?_
    clear hKc Kc
    have hz := heap_alloc_new w1 (.cells #[.bool false, .int .u16 0, .int .i64 0] 50)
    have hbe : Below wd.drew.heap.size wd.drew (w1.alloc (.cells #[.bool false, .int .u16 0, .int .i64 0] 50)) := hd.trans ((below_new _).mono hd.size)
    have HLE : Hid (wd.drew.heap.size ≤ w1.heap.size) := hd.size
    have HBE : Hid (Below wd.drew.heap.size wd.drew (w1.alloc (.cells #[.bool false, .int .u16 0, .int .i64 0] 50))) := hbe
    clear hbe
    generalize hwe : w1.alloc (.cells #[.bool false, .int .u16 0, .int .i64 0] 50) = we at *
    clear hwe hd
    generalize w1.heap.size = hb at *
    have z0 := cell_block hz 0 _ rfl
    have z1 := cell_block hz 1 _ rfl
    have z2 := cell_block hz 2 _ rfl
    have y0 := frozen_of_row we hb 0 _ _ hz
    have y1 := frozen_of_row we hb 1 _ _ hz
    have y2 := frozen_of_row we hb 2 _ _ hz
    refine wpAnyY_one (i := 22) rfl (by kernel_rfl) (fun Kc hKc => ?_)
    go_simp
    refine hKc.out _ _ (fun h => absurd h (by decide)) ?_
    clear hKc Kc
    refine wpAnyY_done (by kernel_rfl) ?_ _
    have t0 := heap_setCell_same _ hb 0 _ 50 (.bool F.has) hz
    have t1 := heap_setCell_same _ hb 1 _ 50 (.int .u16 F.mask) t0
    have t2 := heap_setCell_same _ hb 2 _ 50 (.int .i64 F.num) t1
    have HF : Hid (Rn dq w0 (((we.setCell ⟨hb, 0, none⟩ (.bool F.has)).setCell ⟨hb, 1, none⟩ (.int .u16 F.mask)).setCell ⟨hb, 2, none⟩ (.int .i64 F.num)) b g gs c s sx sy sa x y i j M) := HW3.out.next (((HBE.out.setCell (p := ⟨hb, _, none⟩) HLE.out _).setCell (p := ⟨hb, _, none⟩) HLE.out _).setCell (p := ⟨hb, _, none⟩) HLE.out _)
    have HG := (((HBE.out.setCell (p := ⟨hb, 0, none⟩) HLE.out (.bool F.has)).setCell (p := ⟨hb, 1, none⟩) HLE.out (.int .u16 F.mask)).setCell (p := ⟨hb, 2, none⟩) HLE.out (.int .i64 F.num)).block gb (lt_block HB3.out)
    rw [HB3.out] at HG
    clear hz t0 t1 HBE HLE z0 z1 z2 y0 y1 y2
    generalize ((we.setCell ⟨hb, 0, none⟩ (.bool F.has)).setCell ⟨hb, 1, none⟩ (.int .u16 F.mask)).setCell ⟨hb, 2, none⟩ (.int .i64 F.num) = wf at *
    have m0 := cell_block t2 0 (.bool F.has) rfl
    have m2 := cell_block t2 2 (.int .i64 F.num) rfl
    have q1 := cell_block HG 1 _ rfl
    clear t2 HG HS HB3 HW3 HA
    have hlb2 := HF.out.lt.1
    have r0 : wf.cell? ⟨b, 15 + p * 3, none⟩ = some (.bool (M.regs p).has) := HF.out.reg (m := 0) hp (by omega)
    have r1 : wf.cell? ⟨b, 15 + p * 3 + 1, none⟩ = some (.int .u16 (M.regs p).mask) := HF.out.reg (m := 1) hp (by omega)
    have r2 : wf.cell? ⟨b, 15 + p * 3 + 2, none⟩ = some (.int .i64 (M.regs p).num) := HF.out.reg (m := 2) hp (by omega)
    have f0 := HF.out.fz (15 + p * 3)
    have f1 := HF.out.fz (15 + p * 3 + 1)
    have f2 := HF.out.fz (15 + p * 3 + 2)
    go_wp2_with fail
    go_region
    go_wp2
    go_end0
    exact ⟨rfl, (HF.out.putR p ⟨F.has, 0, F.num⟩).drew⟩
  · go_simp
    refine hKc.out _ _ (fun _ h => ⟨cell_al h.1 _, cell_al h.2.1 _, cell_al h.2.2.1 _, cell_al h.2.2.2 _⟩) ?_
    clear hKc Kc
    have hz1 : ((wd.alloc (.cells #[.bool false, .int .u16 0, .int .i64 0] 50)).drew).heap[wd.heap.size]? = some (.cells #[.bool false, .int .u16 0, .int .i64 0] 50 (0, 0)) := heap_alloc_new wd _
    have hb1 : Below wd.heap.size wd.drew ((wd.alloc (.cells #[.bool false, .int .u16 0, .int .i64 0] 50)).drew) := below_new (w := wd.drew) (.cells #[.bool false, .int .u16 0, .int .i64 0] 50)
    have hs1 : ((wd.alloc (.cells #[.bool false, .int .u16 0, .int .i64 0] 50)).drew).heap.size = wd.heap.size + 1 := by simp
    have HW4 : Hid (Rn dq w0 ((wd.alloc (.cells #[.bool false, .int .u16 0, .int .i64 0] 50)).drew) b g gs c s sx sy sa x y i j M) := HW3.out.next hb1
    generalize (wd.alloc (.cells #[.bool false, .int .u16 0, .int .i64 0] 50)).drew = w1 at *
    refine wpAnyY_one (i := 20) rfl (by kernel_rfl) (fun Kc hKc => ?_)
    refine step_fnD 33 rfl (by rfl) 85 _ _ rfl Tryz.f85 Tryz.func85 (by kernel_rfl) (by kernel_rfl) #[.pointer (some ⟨g, 0, none⟩), .int .i64 q, .int .i64 ((i : Int) - u), .int .i64 ((j : Int) - v)] (by simp [Act.eval]) (HA.out _ HW4.out) ?_
    rintro e we ⟨rfl, hd⟩
    refine ⟨_, rfl, hKc.out _ _ (fun h => absurd h (by decide)) ?_⟩
    clear hKc Kc
    simp only [Act.put, List.setIfInBounds_toArray, List.set_cons_succ, List.set_cons_zero]
    have hz : we.heap[wd.heap.size]? = some (.cells #[.bool false, .int .u16 0, .int .i64 0] 50 (0, 0)) := (hd.block _ (by omega)).trans hz1
    have hbe : Below wd.heap.size wd.drew we := hb1.trans (hd.mono (by omega))
    have HBE : Hid (Below wd.drew.heap.size wd.drew we) := hbe
    clear hz1 hb1 hs1 HW4 hd hbe
    generalize hhb : wd.heap.size = hb at *
    have HLE : Hid (wd.drew.heap.size ≤ hb) := by show wd.heap.size ≤ hb; omega
    clear hhb
    have z0 := cell_block hz 0 _ rfl
    have z1 := cell_block hz 1 _ rfl
    have z2 := cell_block hz 2 _ rfl
    have y0 := frozen_of_row we hb 0 _ _ hz
    have y1 := frozen_of_row we hb 1 _ _ hz
    have y2 := frozen_of_row we hb 2 _ _ hz
    refine wpAnyY_one (i := 22) rfl (by kernel_rfl) (fun Kc hKc => ?_)
    go_simp
    refine hKc.out _ _ (fun h => absurd h (by decide)) ?_
    clear hKc Kc
    refine wpAnyY_done (by kernel_rfl) ?_ _
    have t0 := heap_setCell_same _ hb 0 _ 50 (.bool F.has) hz
    have t1 := heap_setCell_same _ hb 1 _ 50 (.int .u16 F.mask) t0
    have t2 := heap_setCell_same _ hb 2 _ 50 (.int .i64 F.num) t1
    have HF : Hid (Rn dq w0 (((we.setCell ⟨hb, 0, none⟩ (.bool F.has)).setCell ⟨hb, 1, none⟩ (.int .u16 F.mask)).setCell ⟨hb, 2, none⟩ (.int .i64 F.num)) b g gs c s sx sy sa x y i j M) := HW3.out.next (((HBE.out.setCell (p := ⟨hb, _, none⟩) HLE.out _).setCell (p := ⟨hb, _, none⟩) HLE.out _).setCell (p := ⟨hb, _, none⟩) HLE.out _)
    have HG := (((HBE.out.setCell (p := ⟨hb, 0, none⟩) HLE.out (.bool F.has)).setCell (p := ⟨hb, 1, none⟩) HLE.out (.int .u16 F.mask)).setCell (p := ⟨hb, 2, none⟩) HLE.out (.int .i64 F.num)).block gb (lt_block HB3.out)
    rw [HB3.out] at HG
    clear hz t0 t1 HBE HLE z0 z1 z2 y0 y1 y2
    generalize ((we.setCell ⟨hb, 0, none⟩ (.bool F.has)).setCell ⟨hb, 1, none⟩ (.int .u16 F.mask)).setCell ⟨hb, 2, none⟩ (.int .i64 F.num) = wf at *
    have m0 := cell_block t2 0 (.bool F.has) rfl
    have m2 := cell_block t2 2 (.int .i64 F.num) rfl
    have q1 := cell_block HG 1 _ rfl
    clear t2 HG HS HB3 HW3 HA
    have hlb2 := HF.out.lt.1
    have r0 : wf.cell? ⟨b, 15 + p * 3, none⟩ = some (.bool (M.regs p).has) := HF.out.reg (m := 0) hp (by omega)
    have r1 : wf.cell? ⟨b, 15 + p * 3 + 1, none⟩ = some (.int .u16 (M.regs p).mask) := HF.out.reg (m := 1) hp (by omega)
    have r2 : wf.cell? ⟨b, 15 + p * 3 + 2, none⟩ = some (.int .i64 (M.regs p).num) := HF.out.reg (m := 2) hp (by omega)
    have f0 := HF.out.fz (15 + p * 3)
    have f1 := HF.out.fz (15 + p * 3 + 1)
    have f2 := HF.out.fz (15 + p * 3 + 2)
    go_wp2_with fail
    go_region
    go_wp2
    go_end0
    exact ⟨rfl, (HF.out.putR p ⟨F.has, 0, F.num⟩).drew⟩
end
end Go.Proofs.YtnkfibahkmmnpaaGreat
namespace Go.Proofs.YtnkfibahkmmnpaaGreat
open Go.RowKit

def okM (c : Ct) : Prop := 0 ≤ c.mask ∧ c.mask < 65536
theorem two_pow16 {r : Int} (h1 : r < 16) : 2 ^ r.toNat < 65536 := by
  have : r.toNat ≤ 15 := by omega
  calc 2 ^ r.toNat ≤ 2 ^ 15 := Nat.pow_le_pow_right (by omega) this
    _ < 65536 := by decide
theorem u16_wrap {n : Nat} (h : n < 65536) : IntKind.u16.wrap (n : Int) = n := by
  simp only [IntKind.wrap, IntKind.signed, IntKind.bits, Bool.false_and, Bool.false_eq_true, if_false]
  have e : ((2 : Int) ^ 16) = 65536 := by decide
  rw [e]; omega
theorem bit_wrap {r : Int} (h1 : r < 16) : IntKind.u16.wrap (2 ^ r.toNat) = bitB r := by
  have h2 : ((2 : Int) ^ r.toNat) = ((2 ^ r.toNat : Nat) : Int) := by simp
  rw [h2, u16_wrap (two_pow16 h1), bitB]
theorem bit_or {r a : Int} (h1 : r < 16) (ha : 0 ≤ a ∧ a < 65536) : bits .or .u16 a (bitB r) = ((a.toNat ||| (2 ^ r.toNat) : Nat) : Int) := by
  have h := two_pow16 h1
  obtain ⟨n, rfl⟩ : ∃ n : Nat, a = n := ⟨a.toNat, by omega⟩
  unfold bitB
  generalize 2 ^ r.toNat = m at *
  have hn : n < 2 ^ 16 := by omega
  have hm : m < 2 ^ 16 := by omega
  have ho := Nat.or_lt_two_pow hn hm
  have e1 : ∀ k : Nat, k < 2 ^ 16 → (BitVec.ofInt 16 (k : Int)).toNat = k := fun k hk => by rw [BitVec.toNat_ofInt]; omega
  show IntKind.u16.wrap (((BitVec.ofInt 16 (n : Int)) ||| (BitVec.ofInt 16 (m : Int))).toNat : Int) = _
  rw [BitVec.toNat_or, e1 n hn, e1 m hm, u16_wrap (by omega), Int.toNat_natCast]
theorem updC_id (f : Nat → Ct) (k : Nat) : updC f k (f k) = f := by
  funext t
  unfold updC
  by_cases e : t = k
  · rw [if_pos e, e]
  · rw [if_neg e]
section
variable {dq : Nat → Option (Array Value × Nat)} {w0 w : World} {b g gs : Nat} {c : Cd} {s : Ls} {sx sy sa : Sl} {x y : List Int} {i j : Nat} {M : Ms}
set_option maxRecDepth 10000 in
set_option maxHeartbeats 2000000 in
theorem amet_calls (h : Rn dq w0 w b g gs c s sx sy sa x y i j M) (o : Int) (p q : Nat) (r : Int) (hp : p < 16) (hq : q < 16) (hr : 0 ≤ r ∧ r < 16) (hm : okM (M.regs p)) :
    Calls Tryz.prog 59 #[.pointer (some ⟨b, 0, none⟩), .agg #[.int .i64 o, .int .i64 p, .int .i64 q, .int .i64 r]] w fun e w' => e = .returned (.tuple #[]) ∧ Rn dq w0 w' b g gs c s sx sy sa x y i j { M with regs := updC M.regs p (metC (M.regs p) (M.regs q) r) } := by
  have hlb := h.lt.1
  have hpi : (p : Int) < 16 := by omega
  have hqi : (q : Int) < 16 := by omega
  have hr0 := hr.1
  have hr1 : r ≤ 16 := by omega
  obtain ⟨K, hK⟩ : ∃ K, metC (M.regs p) (M.regs q) r = K := ⟨_, rfl⟩
  rw [hK]
  have HK : Hid (metC (M.regs p) (M.regs q) r = K) := hK
  have HRR : Hid (r < 16 ∧ okM (M.regs p)) := ⟨hr.2, hm⟩
  clear hK hm hr
  have HR : Hid (∀ o, Rn dq w0 (w.alloc o) b g gs c s sx sy sa x y i j M) := fun o => h.next (below_new o)
  clear h
  go_enter Tryz.func59, Tryz.ntmps59
  have HB : Hid ((w.alloc (.cells #[.int .i64 o, .int .i64 p, .int .i64 q, .int .i64 r] 65)).heap[w.heap.size]? = some (.cells #[.int .i64 o, .int .i64 p, .int .i64 q, .int .i64 r] 65 (0, 0))) := heap_alloc_new _ _
  go_upto_region 1 with (fail)
  have HW := HR.out (.cells #[.int .i64 o, .int .i64 p, .int .i64 q, .int .i64 r] 65)
  clear HR
  have HW2 : Hid (Rn dq w0 (w.alloc (.cells #[.int .i64 o, .int .i64 p, .int .i64 q, .int .i64 r] 65)) b g gs c s sx sy sa x y i j M) := HW
  clear HW
  generalize w.alloc (.cells #[.int .i64 o, .int .i64 p, .int .i64 q, .int .i64 r] 65) = wd at *
  generalize w.heap.size = gb at *
  have HW3 : Hid (Rn dq w0 wd.drew b g gs c s sx sy sa x y i j M) := HW2.out.drew
  have HB3 : Hid (wd.drew.heap[gb]? = some (.cells #[.int .i64 o, .int .i64 p, .int .i64 q, .int .i64 r] 65 (0, 0))) := HB.out
  have HS : Hid ((fun W : World => W.cell? ⟨gb, 1, none⟩ = some (.int .i64 p) ∧ W.cell? ⟨gb, 2, none⟩ = some (.int .i64 q) ∧ W.cell? ⟨b, 15 + q * 3, none⟩ = some (.bool (M.regs q).has) ∧ W.cell? ⟨b, 15 + q * 3 + 1, none⟩ = some (.int .u16 (M.regs q).mask) ∧ W.cell? ⟨b, 15 + q * 3 + 2, none⟩ = some (.int .i64 (M.regs q).num)) wd.drew) :=
    ⟨cell_block HB.out 1 _ rfl, cell_block HB.out 2 _ rfl, HW3.out.reg (m := 0) hq (by omega), HW3.out.reg (m := 1) hq (by omega), HW3.out.reg (m := 2) hq (by omega)⟩
  clear HB HW2
  refine wp_region_Y (fun j => [15].contains j) (fun W : World => W.cell? ⟨gb, 1, none⟩ = some (.int .i64 p) ∧ W.cell? ⟨gb, 2, none⟩ = some (.int .i64 q) ∧ W.cell? ⟨b, 15 + q * 3, none⟩ = some (.bool (M.regs q).has) ∧ W.cell? ⟨b, 15 + q * 3 + 1, none⟩ = some (.int .u16 (M.regs q).mask) ∧ W.cell? ⟨b, 15 + q * 3 + 2, none⟩ = some (.int .i64 (M.regs q).num)) (by kernel_rfl) ?_
  refine wpAnyY_pure (i := 0) 6 (v := .pointer (some ⟨b, 0, none⟩)) rfl rfl (by kernel_rfl) (by kernel_rfl) (by kernel_rfl) (fun _ _ _ h => h) (Or.inl ⟨by rfl, by (intro W _; go_simp)⟩) ?_
  simp only [Act.put, List.setIfInBounds_toArray, List.set_cons_succ, List.set_cons_zero]
  refine wpAnyY_pure (i := 1) 7 (v := .pointer (some ⟨gb, 1, none⟩)) rfl rfl (by kernel_rfl) (by kernel_rfl) (by kernel_rfl) (fun _ _ _ h => h) (Or.inl ⟨by rfl, by (intro W _; go_simp)⟩) ?_
  simp only [Act.put, List.setIfInBounds_toArray, List.set_cons_succ, List.set_cons_zero]
  refine wpAnyY_takeD (i := 2) 8 (v := .int .i64 p) rfl rfl (by kernel_rfl) (by kernel_rfl) (late_of (by kernel_rfl)) (by kernel_rfl) (by kernel_rfl) (fun _ _ _ h => h) HS.out (Or.inl ⟨by rfl, by (intro W hW; obtain ⟨e0, e1, e2, e3, e4⟩ := hW; go_simp)⟩) ?_
  simp only [Act.put, List.setIfInBounds_toArray, List.set_cons_succ, List.set_cons_zero]
  refine wpAnyY_pure (i := 3) 9 (v := .pointer (some ⟨b, 0, none⟩)) rfl rfl (by kernel_rfl) (by kernel_rfl) (by kernel_rfl) (fun _ _ _ h => h) (Or.inl ⟨by rfl, by (intro W _; go_simp)⟩) ?_
  simp only [Act.put, List.setIfInBounds_toArray, List.set_cons_succ, List.set_cons_zero]
  refine wpAnyY_pure (i := 4) 10 (v := .pointer (some ⟨b, 15, none⟩)) rfl rfl (by kernel_rfl) (by kernel_rfl) (by kernel_rfl) (fun _ _ _ h => h) (Or.inl ⟨by rfl, by (intro W _; go_simp)⟩) ?_
  simp only [Act.put, List.setIfInBounds_toArray, List.set_cons_succ, List.set_cons_zero]
  refine wpAnyY_pure (i := 5) 11 (v := .pointer (some ⟨b, 15 + p * 3, none⟩)) rfl rfl (by kernel_rfl) (by kernel_rfl) (by kernel_rfl) (fun _ _ _ h => h) (Or.inl ⟨by rfl, by (intro W _; go_simp)⟩) ?_
  simp only [Act.put, List.setIfInBounds_toArray, List.set_cons_succ, List.set_cons_zero]
  refine wpAnyY_pure (i := 6) 12 (v := .pointer (some ⟨b, 0, none⟩)) rfl rfl (by kernel_rfl) (by kernel_rfl) (by kernel_rfl) (fun _ _ _ h => h) (Or.inl ⟨by rfl, by (intro W _; go_simp)⟩) ?_
  simp only [Act.put, List.setIfInBounds_toArray, List.set_cons_succ, List.set_cons_zero]
  refine wpAnyY_pure (i := 7) 13 (v := .pointer (some ⟨gb, 2, none⟩)) rfl rfl (by kernel_rfl) (by kernel_rfl) (by kernel_rfl) (fun _ _ _ h => h) (Or.inl ⟨by rfl, by (intro W _; go_simp)⟩) ?_
  simp only [Act.put, List.setIfInBounds_toArray, List.set_cons_succ, List.set_cons_zero]
  refine wpAnyY_takeD (i := 8) 14 (v := .int .i64 q) rfl rfl (by kernel_rfl) (by kernel_rfl) (late_of (by kernel_rfl)) (by kernel_rfl) (by kernel_rfl) (fun _ _ _ h => h) HS.out (Or.inl ⟨by rfl, by (intro W hW; obtain ⟨e0, e1, e2, e3, e4⟩ := hW; go_simp)⟩) ?_
  simp only [Act.put, List.setIfInBounds_toArray, List.set_cons_succ, List.set_cons_zero]
  refine wpAnyY_pure (i := 9) 15 (v := .pointer (some ⟨b, 0, none⟩)) rfl rfl (by kernel_rfl) (by kernel_rfl) (by kernel_rfl) (fun _ _ _ h => h) (Or.inl ⟨by rfl, by (intro W _; go_simp)⟩) ?_
  simp only [Act.put, List.setIfInBounds_toArray, List.set_cons_succ, List.set_cons_zero]
  refine wpAnyY_pure (i := 10) 16 (v := .pointer (some ⟨b, 15, none⟩)) rfl rfl (by kernel_rfl) (by kernel_rfl) (by kernel_rfl) (fun _ _ _ h => h) (Or.inl ⟨by rfl, by (intro W _; go_simp)⟩) ?_
  simp only [Act.put, List.setIfInBounds_toArray, List.set_cons_succ, List.set_cons_zero]
  refine wpAnyY_pure (i := 11) 17 (v := .pointer (some ⟨b, 15 + q * 3, none⟩)) rfl rfl (by kernel_rfl) (by kernel_rfl) (by kernel_rfl) (fun _ _ _ h => h) (Or.inl ⟨by rfl, by (intro W _; go_simp)⟩) ?_
  simp only [Act.put, List.setIfInBounds_toArray, List.set_cons_succ, List.set_cons_zero]
  refine wpAnyY_takeD (i := 12) 18 (v := .agg #[.bool (M.regs q).has, .int .u16 (M.regs q).mask, .int .i64 (M.regs q).num]) rfl rfl (by kernel_rfl) (by kernel_rfl) (late_of (by kernel_rfl)) (by kernel_rfl) (by kernel_rfl) (fun _ _ _ h => h) HS.out (Or.inl ⟨by rfl, by (intro W hW; obtain ⟨e0, e1, e2, e3, e4⟩ := hW; go_simp)⟩) ?_
  simp only [Act.put, List.setIfInBounds_toArray, List.set_cons_succ, List.set_cons_zero]
  refine wpAnyY_one (i := 13) rfl (by kernel_rfl) (fun Kc hKc => ?_)
  go_simp
  refine hKc.out _ _ (fun _ h => ⟨cell_al h.1 _, cell_al h.2.1 _, cell_al h.2.2.1 _, cell_al h.2.2.2.1 _, cell_al h.2.2.2.2 _⟩) ?_
  clear hKc Kc
  have hz : ((wd.alloc (.cells #[.bool false, .int .u16 0, .int .i64 0] 50)).drew).heap[wd.heap.size]? = some (.cells #[.bool false, .int .u16 0, .int .i64 0] 50 (0, 0)) := heap_alloc_new wd _
  have hbe : Below wd.heap.size wd.drew ((wd.alloc (.cells #[.bool false, .int .u16 0, .int .i64 0] 50)).drew) := below_new (w := wd.drew) (.cells #[.bool false, .int .u16 0, .int .i64 0] 50)
  have HBE : Hid (Below wd.drew.heap.size wd.drew ((wd.alloc (.cells #[.bool false, .int .u16 0, .int .i64 0] 50)).drew)) := hbe
  clear hbe
  generalize (wd.alloc (.cells #[.bool false, .int .u16 0, .int .i64 0] 50)).drew = we at *
  generalize hhb : wd.heap.size = hb at *
  have HLE : Hid (wd.drew.heap.size ≤ hb) := by show wd.heap.size ≤ hb; omega
  refine wpAnyY_pure (i := 14) 4 (v := .pointer (some ⟨b, 15 + p * 3, none⟩)) rfl rfl (by kernel_rfl) (by kernel_rfl) (by kernel_rfl) (fun _ _ _ h => h) (Or.inl ⟨by rfl, by (intro W _; go_simp)⟩) ?_
  simp only [Act.put, List.setIfInBounds_toArray, List.set_cons_succ, List.set_cons_zero]
  have z0 := cell_block hz 0 _ rfl
  have z1 := cell_block hz 1 _ rfl
  have z2 := cell_block hz 2 _ rfl
  have y0 := frozen_of_row we hb 0 _ _ hz
  have y1 := frozen_of_row we hb 1 _ _ hz
  have y2 := frozen_of_row we hb 2 _ _ hz
  refine wpAnyY_one (i := 15) rfl (by kernel_rfl) (fun Kc hKc => ?_)
  go_simp
  refine hKc.out _ _ (fun h => absurd h (by decide)) ?_
  clear hKc Kc
  refine wpAnyY_done (by kernel_rfl) ?_ _
  generalize hQ : M.regs q = Q at *
  have t0 := heap_setCell_same _ hb 0 _ 50 (.bool Q.has) hz
  have t1 := heap_setCell_same _ hb 1 _ 50 (.int .u16 Q.mask) t0
  have t2 := heap_setCell_same _ hb 2 _ 50 (.int .i64 Q.num) t1
  have HF : Hid (Rn dq w0 (((we.setCell ⟨hb, 0, none⟩ (.bool Q.has)).setCell ⟨hb, 1, none⟩ (.int .u16 Q.mask)).setCell ⟨hb, 2, none⟩ (.int .i64 Q.num)) b g gs c s sx sy sa x y i j M) := HW3.out.next (((HBE.out.setCell (p := ⟨hb, _, none⟩) HLE.out _).setCell (p := ⟨hb, _, none⟩) HLE.out _).setCell (p := ⟨hb, _, none⟩) HLE.out _)
  have HG := (((HBE.out.setCell (p := ⟨hb, 0, none⟩) HLE.out (.bool Q.has)).setCell (p := ⟨hb, 1, none⟩) HLE.out (.int .u16 Q.mask)).setCell (p := ⟨hb, 2, none⟩) HLE.out (.int .i64 Q.num)).block gb (lt_block HB3.out)
  rw [HB3.out] at HG
  clear hz t0 t1 HBE HLE z0 z1 z2 y0 y1 y2
  generalize ((we.setCell ⟨hb, 0, none⟩ (.bool Q.has)).setCell ⟨hb, 1, none⟩ (.int .u16 Q.mask)).setCell ⟨hb, 2, none⟩ (.int .i64 Q.num) = wf at *
  have m0 := cell_block t2 0 (.bool Q.has) rfl
  have m2 := cell_block t2 2 (.int .i64 Q.num) rfl
  have q3 := cell_block HG 3 (.int .i64 r) rfl
  clear t2 HG HS HB3 HW3 hhb
  have hlb2 := HF.out.lt.1
  have r0 : wf.cell? ⟨b, 15 + p * 3, none⟩ = some (.bool (M.regs p).has) := HF.out.reg (m := 0) hp (by omega)
  have r1 : wf.cell? ⟨b, 15 + p * 3 + 1, none⟩ = some (.int .u16 (M.regs p).mask) := HF.out.reg (m := 1) hp (by omega)
  have r2 : wf.cell? ⟨b, 15 + p * 3 + 2, none⟩ = some (.int .i64 (M.regs p).num) := HF.out.reg (m := 2) hp (by omega)
  have f0 := HF.out.fz (15 + p * 3)
  have f1 := HF.out.fz (15 + p * 3 + 1)
  have f2 := HF.out.fz (15 + p * 3 + 2)
  have HP : Hid (M.regs p = M.regs p) := rfl
  generalize hPP : M.regs p = A at r0 r1 r2 HK HRR HP
  have HID : Hid (M.regs p = A) := hPP
  clear HP hPP hQ
  cases hQh : Q.has
  · rw [hQh] at m0
    have HE : Hid (K = A) := by show _ = _; rw [← HK.out, metC, if_pos hQh]
    clear HK hQh
    go_wp2
    go_end0
    refine ⟨rfl, ?_⟩
    rw [HE.out, ← HID.out, updC_id]
    exact HF.out
  · rw [hQh] at m0
    cases hA : (!A.has || decide (A.num < Q.num))
    · have hAh : A.has = true := by cases hh : A.has <;> simp_all
      have hAn : decide (A.num < Q.num) = false := by simp [hAh] at hA; simpa using hA
      have hAn2 : ¬ A.num < Q.num := by simpa using hAn
      rw [hAh] at r0
      by_cases hAe : A.num = Q.num
      · have hAb : (A.num == Q.num) = true := by simpa using hAe
        have HE : Hid (K = ⟨A.has, ((A.mask.toNat ||| (2 ^ r.toNat) : Nat) : Int), A.num⟩) := by show _ = _; rw [← HK.out, metC, if_neg (by rw [hQh]; decide), if_neg (by rw [hA]; decide), if_pos hAe]
        clear HK hQh hA hAe hAn2
        go_wp2_with fail
        go_quiet (fail)
        go_wp2_with fail
        go_quiet (fail)
        go_wp2_with fail
        go_region
        go_wp2
        go_end0
        refine ⟨rfl, ?_⟩
        rw [HE.out]
        rw [bit_wrap HRR.out.1, bit_or HRR.out.1 HRR.out.2]
        exact (HF.out.next (below_drewN (Below.refl _ _) _)).putC p 1 (by omega) _ _ (fun t ht => by
          rw [HID.out]
          have : t = 0 ∨ t = 1 ∨ t = 2 := by omega
          rcases this with rfl | rfl | rfl <;> rfl)
      · have hAb : (A.num == Q.num) = false := by simpa using hAe
        have HE : Hid (K = A) := by show _ = _; rw [← HK.out, metC, if_neg (by rw [hQh]; decide), if_neg (by rw [hA]; decide), if_neg hAe]
        clear HK hQh hA hAe hAn2
        go_wp2_with fail
        go_quiet (fail)
        go_wp2_with fail
        go_quiet (fail)
        go_wp2
        go_end0
        refine ⟨rfl, ?_⟩
        rw [HE.out]
        rw [← HID.out, updC_id]
        exact (HF.out.next (below_drewN (Below.refl _ _) _)).next (below_drewN (Below.refl _ _) _)
    · have HE : Hid (K = ⟨true, bitB r, Q.num⟩) := by show _ = _; rw [← HK.out, metC, if_neg (by rw [hQh]; decide), if_pos hA]
      clear HK hQh
      cases hAh : A.has
      · rw [hAh] at r0
        clear hA
        go_wp2_with fail
        go_quiet (fail)
        go_wp2_with fail
        go_region
        go_wp2
        go_end0
        refine ⟨rfl, ?_⟩
        rw [HE.out]
        rw [bit_wrap HRR.out.1]
        exact (HF.out.next (below_drewN (Below.refl _ _) _)).putR p ⟨true, bitB r, Q.num⟩
      · have hAn : decide (A.num < Q.num) = true := by simp [hAh] at hA; simpa using hA
        rw [hAh] at r0
        clear hA
        go_wp2_with fail
        go_quiet (fail)
        go_wp2_with fail
        go_region
        go_wp2
        go_end0
        refine ⟨rfl, ?_⟩
        rw [HE.out]
        rw [bit_wrap HRR.out.1]
        exact (HF.out.next (below_drewN (Below.refl _ _) _)).putR p ⟨true, bitB r, Q.num⟩
end
end Go.Proofs.YtnkfibahkmmnpaaGreat
namespace Go.Proofs.YtnkfibahkmmnpaaGreat
open Go.RowKit

section
variable {dq : Nat → Option (Array Value × Nat)} {w0 w : World} {b g gs : Nat} {c : Cd} {s : Ls} {sx sy sa : Sl} {x y : List Int} {i j : Nat} {M : Ms}
set_option maxRecDepth 10000 in
set_option maxHeartbeats 2000000 in
theorem end_calls (h : Rn dq w0 w b g gs c s sx sy sa x y i j M) (o : Int) (p q : Nat) (r : Int) (hp : p < c.planes.toNat) (hq : q < s.k.n) :
    Calls Tryz.prog 61 #[.pointer (some ⟨b, 0, none⟩), .agg #[.int .i64 o, .int .i64 p, .int .i64 q, .int .i64 r]] w fun e w' => e = .returned (.tuple #[]) ∧ Rn dq w0 w' b g gs c s sx sy sa x y i j (if ((atB c.planes.toNat x.length y.length M.slots p i j).has && metB r (decide (i = x.length)) (decide (j = y.length))) = true then { M with ends := endB M.ends p i j (wrap64 ((atB c.planes.toNat x.length y.length M.slots p i j).num + c.consts.getD q 0)) } else M) := by
  have hlb := h.lt.1
  have hp10 : p < 10 := by have := h.tb.few.1; omega
  obtain ⟨F, hF⟩ : ∃ F, atB c.planes.toNat x.length y.length M.slots p i j = F := ⟨_, rfl⟩
  rw [hF]
  have HV : Hid (∀ W, Rn dq w0 W b g gs c s sx sy sa x y i j M → Calls Tryz.prog 87 #[.pointer (some ⟨g, 0, none⟩), .int .i64 p, .int .i64 i, .int .i64 j] W fun e w' => e = .returned (.tuple #[.int .i64 F.num, .bool F.has]) ∧ Below W.heap.size W w') := fun W hW => by
    have := value_calls hW.tb p i j
    rw [hF] at this
    exact this
  clear hF
  have HI : Hid (((i : Int) == (sx.n : Int)) = decide (i = x.length)) := by show _ = _; rw [h.hx.length, Bool.eq_iff_iff]; simp; omega
  have HJ : Hid (((j : Int) == (sy.n : Int)) = decide (j = y.length)) := by show _ = _; rw [h.hy.length, Bool.eq_iff_iff]; simp; omega
  obtain ⟨bi, hbi⟩ : ∃ t, ((i : Int) == (sx.n : Int)) = t := ⟨_, rfl⟩
  obtain ⟨bj, hbj⟩ : ∃ t, ((j : Int) == (sy.n : Int)) = t := ⟨_, rfl⟩
  rw [← HI.out, ← HJ.out, hbi, hbj]
  clear HI HJ
  obtain ⟨mm, hmm⟩ : ∃ t, metB r bi bj = t := ⟨_, rfl⟩
  rw [hmm]
  have HC : Hid (∀ W, Calls Tryz.prog 83 #[.int .i64 r, .bool bi, .bool bj] W fun e w' => e = .returned (.bool mm) ∧ w' = W) := fun W => by rw [← hmm]; exact (meets_calls r bi bj W).mono fun _ _ t => ⟨t.1, t.2.symm⟩
  clear hmm
  obtain ⟨K, hK⟩ : ∃ K, (if (F.has && mm) = true then { M with ends := endB M.ends p i j (wrap64 (F.num + c.consts.getD q 0)) } else M) = K := ⟨_, rfl⟩
  rw [hK]
  have HK : Hid ((if (F.has && mm) = true then { M with ends := endB M.ends p i j (wrap64 (F.num + c.consts.getD q 0)) } else M) = K) := hK
  clear hK
  have HR : Hid (∀ o, Rn dq w0 (w.alloc o) b g gs c s sx sy sa x y i j M) := fun o => h.next (below_new o)
  clear h
  go_enter Tryz.func61, Tryz.ntmps61
  have HB : Hid ((w.alloc (.cells #[.int .i64 o, .int .i64 p, .int .i64 q, .int .i64 r] 65)).heap[w.heap.size]? = some (.cells #[.int .i64 o, .int .i64 p, .int .i64 q, .int .i64 r] 65 (0, 0))) := heap_alloc_new _ _
  go_upto_region 1 with (fail)
  have HW := HR.out (.cells #[.int .i64 o, .int .i64 p, .int .i64 q, .int .i64 r] 65)
  clear HR
  have HW2 : Hid (Rn dq w0 (w.alloc (.cells #[.int .i64 o, .int .i64 p, .int .i64 q, .int .i64 r] 65)) b g gs c s sx sy sa x y i j M) := HW
  clear HW
  generalize w.alloc (.cells #[.int .i64 o, .int .i64 p, .int .i64 q, .int .i64 r] 65) = wd at *
  generalize w.heap.size = gb at *
  have HW3 : Hid (Rn dq w0 wd.drew b g gs c s sx sy sa x y i j M) := HW2.out.drew
  have HB3 : Hid (wd.drew.heap[gb]? = some (.cells #[.int .i64 o, .int .i64 p, .int .i64 q, .int .i64 r] 65 (0, 0))) := HB.out
  have HS : Hid ((fun W : World => W.cell? ⟨b, 0, none⟩ = some (.pointer (some ⟨g, 0, none⟩)) ∧ W.cell? ⟨gb, 1, none⟩ = some (.int .i64 p) ∧ W.cell? ⟨b, 13, none⟩ = some (.int .i64 i) ∧ W.cell? ⟨b, 14, none⟩ = some (.int .i64 j)) wd.drew) :=
    ⟨HW3.out.cell 0 (by omega) rfl, cell_block HB.out 1 _ rfl, HW3.out.cell 13 (by omega) rfl, HW3.out.cell 14 (by omega) rfl⟩
  clear HB HW2
  refine wp_region_Y (fun j => [16].contains j) (fun W : World => W.cell? ⟨b, 0, none⟩ = some (.pointer (some ⟨g, 0, none⟩)) ∧ W.cell? ⟨gb, 1, none⟩ = some (.int .i64 p) ∧ W.cell? ⟨b, 13, none⟩ = some (.int .i64 i) ∧ W.cell? ⟨b, 14, none⟩ = some (.int .i64 j)) (by kernel_rfl) ?_
  refine wpAnyY_pure (i := 0) 7 (v := .pointer (some ⟨b, 0, none⟩)) rfl rfl (by kernel_rfl) (by kernel_rfl) (by kernel_rfl) (fun _ _ _ h => h) (Or.inl ⟨by rfl, by (intro W _; go_simp)⟩) ?_
  simp only [Act.put, List.setIfInBounds_toArray, List.set_cons_succ, List.set_cons_zero]
  refine wpAnyY_pure (i := 1) 8 (v := .pointer (some ⟨b, 0, none⟩)) rfl rfl (by kernel_rfl) (by kernel_rfl) (by kernel_rfl) (fun _ _ _ h => h) (Or.inl ⟨by rfl, by (intro W _; go_simp)⟩) ?_
  simp only [Act.put, List.setIfInBounds_toArray, List.set_cons_succ, List.set_cons_zero]
  refine wpAnyY_pure (i := 2) 9 (v := .pointer (some ⟨b, 0, none⟩)) rfl rfl (by kernel_rfl) (by kernel_rfl) (by kernel_rfl) (fun _ _ _ h => h) (Or.inl ⟨by rfl, by (intro W _; go_simp)⟩) ?_
  simp only [Act.put, List.setIfInBounds_toArray, List.set_cons_succ, List.set_cons_zero]
  refine wpAnyY_takeD (i := 3) 10 (v := .pointer (some ⟨g, 0, none⟩)) rfl rfl (by kernel_rfl) (by kernel_rfl) (late_of (by kernel_rfl)) (by kernel_rfl) (by kernel_rfl) (fun _ _ _ h => h) HS.out (Or.inl ⟨by rfl, by (intro W hW; obtain ⟨e0, e1, e2, e3⟩ := hW; go_simp)⟩) ?_
  simp only [Act.put, List.setIfInBounds_toArray, List.set_cons_succ, List.set_cons_zero]
  refine wpAnyY_pure (i := 4) 11 (v := .pointer (some ⟨g, 0, none⟩)) rfl rfl (by kernel_rfl) (by kernel_rfl) (by kernel_rfl) (fun _ _ _ h => h) (Or.inl ⟨by rfl, by (intro W _; go_simp)⟩) ?_
  simp only [Act.put, List.setIfInBounds_toArray, List.set_cons_succ, List.set_cons_zero]
  refine wpAnyY_pure (i := 5) 12 (v := .pointer (some ⟨g, 0, none⟩)) rfl rfl (by kernel_rfl) (by kernel_rfl) (by kernel_rfl) (fun _ _ _ h => h) (Or.inl ⟨by rfl, by (intro W _; go_simp)⟩) ?_
  simp only [Act.put, List.setIfInBounds_toArray, List.set_cons_succ, List.set_cons_zero]
  refine wpAnyY_pure (i := 6) 13 (v := .pointer (some ⟨gb, 1, none⟩)) rfl rfl (by kernel_rfl) (by kernel_rfl) (by kernel_rfl) (fun _ _ _ h => h) (Or.inl ⟨by rfl, by (intro W _; go_simp)⟩) ?_
  simp only [Act.put, List.setIfInBounds_toArray, List.set_cons_succ, List.set_cons_zero]
  refine wpAnyY_takeD (i := 7) 14 (v := .int .i64 p) rfl rfl (by kernel_rfl) (by kernel_rfl) (late_of (by kernel_rfl)) (by kernel_rfl) (by kernel_rfl) (fun _ _ _ h => h) HS.out (Or.inl ⟨by rfl, by (intro W hW; obtain ⟨e0, e1, e2, e3⟩ := hW; go_simp)⟩) ?_
  simp only [Act.put, List.setIfInBounds_toArray, List.set_cons_succ, List.set_cons_zero]
  refine wpAnyY_pure (i := 8) 15 (v := .pointer (some ⟨b, 0, none⟩)) rfl rfl (by kernel_rfl) (by kernel_rfl) (by kernel_rfl) (fun _ _ _ h => h) (Or.inl ⟨by rfl, by (intro W _; go_simp)⟩) ?_
  simp only [Act.put, List.setIfInBounds_toArray, List.set_cons_succ, List.set_cons_zero]
  refine wpAnyY_pure (i := 9) 16 (v := .pointer (some ⟨b, 0, none⟩)) rfl rfl (by kernel_rfl) (by kernel_rfl) (by kernel_rfl) (fun _ _ _ h => h) (Or.inl ⟨by rfl, by (intro W _; go_simp)⟩) ?_
  simp only [Act.put, List.setIfInBounds_toArray, List.set_cons_succ, List.set_cons_zero]
  refine wpAnyY_pure (i := 10) 17 (v := .pointer (some ⟨b, 13, none⟩)) rfl rfl (by kernel_rfl) (by kernel_rfl) (by kernel_rfl) (fun _ _ _ h => h) (Or.inl ⟨by rfl, by (intro W _; go_simp)⟩) ?_
  simp only [Act.put, List.setIfInBounds_toArray, List.set_cons_succ, List.set_cons_zero]
  refine wpAnyY_takeD (i := 11) 18 (v := .int .i64 i) rfl rfl (by kernel_rfl) (by kernel_rfl) (late_of (by kernel_rfl)) (by kernel_rfl) (by kernel_rfl) (fun _ _ _ h => h) HS.out (Or.inl ⟨by rfl, by (intro W hW; obtain ⟨e0, e1, e2, e3⟩ := hW; go_simp)⟩) ?_
  simp only [Act.put, List.setIfInBounds_toArray, List.set_cons_succ, List.set_cons_zero]
  refine wpAnyY_pure (i := 12) 19 (v := .pointer (some ⟨b, 0, none⟩)) rfl rfl (by kernel_rfl) (by kernel_rfl) (by kernel_rfl) (fun _ _ _ h => h) (Or.inl ⟨by rfl, by (intro W _; go_simp)⟩) ?_
  simp only [Act.put, List.setIfInBounds_toArray, List.set_cons_succ, List.set_cons_zero]
  refine wpAnyY_pure (i := 13) 20 (v := .pointer (some ⟨b, 0, none⟩)) rfl rfl (by kernel_rfl) (by kernel_rfl) (by kernel_rfl) (fun _ _ _ h => h) (Or.inl ⟨by rfl, by (intro W _; go_simp)⟩) ?_
  simp only [Act.put, List.setIfInBounds_toArray, List.set_cons_succ, List.set_cons_zero]
  refine wpAnyY_pure (i := 14) 21 (v := .pointer (some ⟨b, 14, none⟩)) rfl rfl (by kernel_rfl) (by kernel_rfl) (by kernel_rfl) (fun _ _ _ h => h) (Or.inl ⟨by rfl, by (intro W _; go_simp)⟩) ?_
  simp only [Act.put, List.setIfInBounds_toArray, List.set_cons_succ, List.set_cons_zero]
  refine wpAnyY_takeD (i := 15) 22 (v := .int .i64 j) rfl rfl (by kernel_rfl) (by kernel_rfl) (late_of (by kernel_rfl)) (by kernel_rfl) (by kernel_rfl) (fun _ _ _ h => h) HS.out (Or.inl ⟨by rfl, by (intro W hW; obtain ⟨e0, e1, e2, e3⟩ := hW; go_simp)⟩) ?_
  simp only [Act.put, List.setIfInBounds_toArray, List.set_cons_succ, List.set_cons_zero]
  refine wpAnyY_one (i := 16) rfl (by kernel_rfl) (fun Kc hKc => ?_)
  refine step_fnD 23 rfl (by rfl) 87 _ _ rfl Tryz.f87 Tryz.func87 (by kernel_rfl) (by kernel_rfl) #[.pointer (some ⟨g, 0, none⟩), .int .i64 p, .int .i64 i, .int .i64 j] (by simp [Act.eval]) (HV.out _ HW3.out) ?_
  rintro e we ⟨rfl, hd⟩
  refine ⟨_, rfl, hKc.out _ _ (fun h => absurd h (by decide)) ?_⟩
  clear hKc Kc
  simp only [Act.put, List.setIfInBounds_toArray, List.set_cons_succ, List.set_cons_zero]
  refine wpAnyY_pure (i := 17) 6 (v := .tuple #[.int .i64 F.num, .bool F.has]) rfl rfl (by kernel_rfl) (by kernel_rfl) (by kernel_rfl) (fun _ _ _ h => h) (Or.inl ⟨by rfl, by (intro W _; go_simp)⟩) ?_
  simp only [Act.put, List.setIfInBounds_toArray, List.set_cons_succ, List.set_cons_zero]
  refine wpAnyY_pure (i := 18) 24 (v := .int .i64 F.num) rfl rfl (by kernel_rfl) (by kernel_rfl) (by kernel_rfl) (fun _ _ _ h => h) (Or.inl ⟨by rfl, by (intro W _; go_simp)⟩) ?_
  simp only [Act.put, List.setIfInBounds_toArray, List.set_cons_succ, List.set_cons_zero]
  refine wpAnyY_pure (i := 19) 25 (v := .bool F.has) rfl rfl (by kernel_rfl) (by kernel_rfl) (by kernel_rfl) (fun _ _ _ h => h) (Or.inl ⟨by rfl, by (intro W _; go_simp)⟩) ?_
  simp only [Act.put, List.setIfInBounds_toArray, List.set_cons_succ, List.set_cons_zero]
  refine wpAnyY_pure (i := 20) 4 (v := .int .i64 F.num) rfl rfl (by kernel_rfl) (by kernel_rfl) (by kernel_rfl) (fun _ _ _ h => h) (Or.inl ⟨by rfl, by (intro W _; go_simp)⟩) ?_
  simp only [Act.put, List.setIfInBounds_toArray, List.set_cons_succ, List.set_cons_zero]
  refine wpAnyY_pure (i := 21) 5 (v := .bool F.has) rfl rfl (by kernel_rfl) (by kernel_rfl) (by kernel_rfl) (fun _ _ _ h => h) (Or.inl ⟨by rfl, by (intro W _; go_simp)⟩) ?_
  simp only [Act.put, List.setIfInBounds_toArray, List.set_cons_succ, List.set_cons_zero]
  refine wpAnyY_done (by kernel_rfl) ?_ _
  have HF : Hid (Rn dq w0 we b g gs c s sx sy sa x y i j M) := HW3.out.next hd
  have HG : Hid (we.heap[gb]? = some (.cells #[.int .i64 o, .int .i64 p, .int .i64 q, .int .i64 r] 65 (0, 0))) := (hd.block gb (lt_block HB3.out)).trans HB3.out
  clear hd HS HW3 HB3 HV
  have c11 := HF.out.cell 11 (by omega) (v := .slice sx.a sx.n sx.c) rfl
  have c12 := HF.out.cell 12 (by omega) (v := .slice sy.a sy.n sy.c) rfl
  have c13 := HF.out.cell 13 (by omega) (v := .int .i64 i) rfl
  have c14 := HF.out.cell 14 (by omega) (v := .int .i64 j) rfl
  have q3 := cell_block HG.out 3 _ rfl
  cases hh : F.has
  · have HE : Hid (K = M) := by show _ = _; rw [← HK.out, hh]; rfl
    clear HK
    go_wp2_with fail
    go_quiet (fail)
    go_wp2
    go_end0
    refine ⟨rfl, ?_⟩
    rw [HE.out]
    exact HF.out.next (below_drewN (Below.refl _ _) _)
  cases mm
  · have HE : Hid (K = M) := by show _ = _; rw [← HK.out, hh]; rfl
    clear HK
    go_wp2_with fail
    go_quiet ((go_at_call 83; refine Calls.quiet_of_same (HC.out _)))
    go_wp2
    go_end0
    refine ⟨rfl, ?_⟩
    rw [HE.out]
    exact HF.out.next (below_drewN (Below.refl _ _) _)
  · have HE : Hid (K = { M with ends := endB M.ends p i j (wrap64 (F.num + c.consts.getD q 0)) }) := by show _ = _; rw [← HK.out, hh]; rfl
    clear HK
    go_wp2_with fail
    go_quiet ((go_at_call 83; refine Calls.quiet_of_same (HC.out _)))
    go_upto_region 3 with (fail)
    clear c11 c12 c13 c14 q3 HC
    have HF2 : Hid (Rn dq w0 (we.drewN nq).drew b g gs c s sx sy sa x y i j M) := (HF.out.next (below_drewN (Below.refl _ _) _)).drew
    have HG2 : Hid ((we.drewN nq).drew.heap[gb]? = some (.cells #[.int .i64 o, .int .i64 p, .int .i64 q, .int .i64 r] 65 (0, 0))) := HG.out
    clear HF HG
    have HKK : Hid (IntsAt (we.drewN nq).drew s.k.a s.k.n c.consts) := HF2.out.cd.consts.below HF2.out.low
    obtain ⟨kb, ko, hka, hkc⟩ := HKK.out.cells (by omega)
    have k1 := hkc q hq
    have hks := HKK.out.short
    unfold maxLen at hks
    have HS : Hid ((fun W : World => W.cell? ⟨b, 0, none⟩ = some (.pointer (some ⟨g, 0, none⟩)) ∧ W.cell? ⟨gb, 1, none⟩ = some (.int .i64 p) ∧ W.cell? ⟨b, 13, none⟩ = some (.int .i64 i) ∧ W.cell? ⟨b, 14, none⟩ = some (.int .i64 j) ∧ W.cell? ⟨b, 8, none⟩ = some (.slice (some ⟨kb, ko, none⟩) s.k.n s.k.c) ∧ W.cell? ⟨gb, 2, none⟩ = some (.int .i64 q) ∧ W.cell? ⟨kb, ko + q, none⟩ = some (.int .i64 (c.consts.getD q 0))) (we.drewN nq).drew) :=
      ⟨HF2.out.cell 0 (by omega) rfl, cell_block HG2.out 1 _ rfl, HF2.out.cell 13 (by omega) rfl, HF2.out.cell 14 (by omega) rfl, HF2.out.cell 8 (by omega) (by rw [← hka]; rfl), cell_block HG2.out 2 _ rfl, k1⟩
    clear hkc hka k1 HKK HG2
    have HM : Hid (Calls Tryz.prog 88 #[.pointer (some ⟨g, 5, none⟩), .int .i64 p, .int .i64 i, .int .i64 j, .int .i64 (wrap64 (F.num + c.consts.getD q 0))] (we.drewN nq).drew fun e' w' => e' = .returned (.tuple #[]) ∧ Rn dq w0 w' b g gs c s sx sy sa x y i j K) := by
      refine (emeet_calls HF2.out.tb p i j (wrap64 (F.num + c.consts.getD q 0)) hp10).mono ?_
      rintro e w' ⟨rfl, ht, hb⟩
      refine ⟨rfl, ?_⟩
      rw [HE.out]
      exact HF2.out.bar hb ht
    clear HF2 HE
    refine wp_region_Y (fun j => [27].contains j) (fun W : World => W.cell? ⟨b, 0, none⟩ = some (.pointer (some ⟨g, 0, none⟩)) ∧ W.cell? ⟨gb, 1, none⟩ = some (.int .i64 p) ∧ W.cell? ⟨b, 13, none⟩ = some (.int .i64 i) ∧ W.cell? ⟨b, 14, none⟩ = some (.int .i64 j) ∧ W.cell? ⟨b, 8, none⟩ = some (.slice (some ⟨kb, ko, none⟩) s.k.n s.k.c) ∧ W.cell? ⟨gb, 2, none⟩ = some (.int .i64 q) ∧ W.cell? ⟨kb, ko + q, none⟩ = some (.int .i64 (c.consts.getD q 0))) (by kernel_rfl) ?_
    refine wpAnyY_pure (i := 0) 52 (v := .pointer (some ⟨b, 0, none⟩)) rfl rfl (by kernel_rfl) (by kernel_rfl) (by kernel_rfl) (fun _ _ _ h => h) (Or.inl ⟨by rfl, by (intro W _; go_simp)⟩) ?_
    simp only [Act.put, List.setIfInBounds_toArray, List.set_cons_succ, List.set_cons_zero]
    refine wpAnyY_pure (i := 1) 53 (v := .pointer (some ⟨b, 0, none⟩)) rfl rfl (by kernel_rfl) (by kernel_rfl) (by kernel_rfl) (fun _ _ _ h => h) (Or.inl ⟨by rfl, by (intro W _; go_simp)⟩) ?_
    simp only [Act.put, List.setIfInBounds_toArray, List.set_cons_succ, List.set_cons_zero]
    refine wpAnyY_pure (i := 2) 54 (v := .pointer (some ⟨b, 0, none⟩)) rfl rfl (by kernel_rfl) (by kernel_rfl) (by kernel_rfl) (fun _ _ _ h => h) (Or.inl ⟨by rfl, by (intro W _; go_simp)⟩) ?_
    simp only [Act.put, List.setIfInBounds_toArray, List.set_cons_succ, List.set_cons_zero]
    refine wpAnyY_takeD (i := 3) 55 (v := .pointer (some ⟨g, 0, none⟩)) rfl rfl (by kernel_rfl) (by kernel_rfl) (late_of (by kernel_rfl)) (by kernel_rfl) (by kernel_rfl) (fun _ _ _ h => h) HS.out (Or.inl ⟨by rfl, by (intro W hW; obtain ⟨e0, e1, e2, e3, e4, e5, e6⟩ := hW; go_simp)⟩) ?_
    simp only [Act.put, List.setIfInBounds_toArray, List.set_cons_succ, List.set_cons_zero]
    refine wpAnyY_pure (i := 4) 56 (v := .pointer (some ⟨g, 0, none⟩)) rfl rfl (by kernel_rfl) (by kernel_rfl) (by kernel_rfl) (fun _ _ _ h => h) (Or.inl ⟨by rfl, by (intro W _; go_simp)⟩) ?_
    simp only [Act.put, List.setIfInBounds_toArray, List.set_cons_succ, List.set_cons_zero]
    refine wpAnyY_pure (i := 5) 57 (v := .pointer (some ⟨g, 5, none⟩)) rfl rfl (by kernel_rfl) (by kernel_rfl) (by kernel_rfl) (fun _ _ _ h => h) (Or.inl ⟨by rfl, by (intro W _; go_simp)⟩) ?_
    simp only [Act.put, List.setIfInBounds_toArray, List.set_cons_succ, List.set_cons_zero]
    refine wpAnyY_pure (i := 6) 58 (v := .pointer (some ⟨gb, 1, none⟩)) rfl rfl (by kernel_rfl) (by kernel_rfl) (by kernel_rfl) (fun _ _ _ h => h) (Or.inl ⟨by rfl, by (intro W _; go_simp)⟩) ?_
    simp only [Act.put, List.setIfInBounds_toArray, List.set_cons_succ, List.set_cons_zero]
    refine wpAnyY_takeD (i := 7) 59 (v := .int .i64 p) rfl rfl (by kernel_rfl) (by kernel_rfl) (late_of (by kernel_rfl)) (by kernel_rfl) (by kernel_rfl) (fun _ _ _ h => h) HS.out (Or.inl ⟨by rfl, by (intro W hW; obtain ⟨e0, e1, e2, e3, e4, e5, e6⟩ := hW; go_simp)⟩) ?_
    simp only [Act.put, List.setIfInBounds_toArray, List.set_cons_succ, List.set_cons_zero]
    refine wpAnyY_pure (i := 8) 60 (v := .pointer (some ⟨b, 0, none⟩)) rfl rfl (by kernel_rfl) (by kernel_rfl) (by kernel_rfl) (fun _ _ _ h => h) (Or.inl ⟨by rfl, by (intro W _; go_simp)⟩) ?_
    simp only [Act.put, List.setIfInBounds_toArray, List.set_cons_succ, List.set_cons_zero]
    refine wpAnyY_pure (i := 9) 61 (v := .pointer (some ⟨b, 0, none⟩)) rfl rfl (by kernel_rfl) (by kernel_rfl) (by kernel_rfl) (fun _ _ _ h => h) (Or.inl ⟨by rfl, by (intro W _; go_simp)⟩) ?_
    simp only [Act.put, List.setIfInBounds_toArray, List.set_cons_succ, List.set_cons_zero]
    refine wpAnyY_pure (i := 10) 62 (v := .pointer (some ⟨b, 13, none⟩)) rfl rfl (by kernel_rfl) (by kernel_rfl) (by kernel_rfl) (fun _ _ _ h => h) (Or.inl ⟨by rfl, by (intro W _; go_simp)⟩) ?_
    simp only [Act.put, List.setIfInBounds_toArray, List.set_cons_succ, List.set_cons_zero]
    refine wpAnyY_takeD (i := 11) 63 (v := .int .i64 i) rfl rfl (by kernel_rfl) (by kernel_rfl) (late_of (by kernel_rfl)) (by kernel_rfl) (by kernel_rfl) (fun _ _ _ h => h) HS.out (Or.inl ⟨by rfl, by (intro W hW; obtain ⟨e0, e1, e2, e3, e4, e5, e6⟩ := hW; go_simp)⟩) ?_
    simp only [Act.put, List.setIfInBounds_toArray, List.set_cons_succ, List.set_cons_zero]
    refine wpAnyY_pure (i := 12) 64 (v := .pointer (some ⟨b, 0, none⟩)) rfl rfl (by kernel_rfl) (by kernel_rfl) (by kernel_rfl) (fun _ _ _ h => h) (Or.inl ⟨by rfl, by (intro W _; go_simp)⟩) ?_
    simp only [Act.put, List.setIfInBounds_toArray, List.set_cons_succ, List.set_cons_zero]
    refine wpAnyY_pure (i := 13) 65 (v := .pointer (some ⟨b, 0, none⟩)) rfl rfl (by kernel_rfl) (by kernel_rfl) (by kernel_rfl) (fun _ _ _ h => h) (Or.inl ⟨by rfl, by (intro W _; go_simp)⟩) ?_
    simp only [Act.put, List.setIfInBounds_toArray, List.set_cons_succ, List.set_cons_zero]
    refine wpAnyY_pure (i := 14) 66 (v := .pointer (some ⟨b, 14, none⟩)) rfl rfl (by kernel_rfl) (by kernel_rfl) (by kernel_rfl) (fun _ _ _ h => h) (Or.inl ⟨by rfl, by (intro W _; go_simp)⟩) ?_
    simp only [Act.put, List.setIfInBounds_toArray, List.set_cons_succ, List.set_cons_zero]
    refine wpAnyY_takeD (i := 15) 67 (v := .int .i64 j) rfl rfl (by kernel_rfl) (by kernel_rfl) (late_of (by kernel_rfl)) (by kernel_rfl) (by kernel_rfl) (fun _ _ _ h => h) HS.out (Or.inl ⟨by rfl, by (intro W hW; obtain ⟨e0, e1, e2, e3, e4, e5, e6⟩ := hW; go_simp)⟩) ?_
    simp only [Act.put, List.setIfInBounds_toArray, List.set_cons_succ, List.set_cons_zero]
    refine wpAnyY_pure (i := 16) 68 (v := .int .i64 F.num) rfl rfl (by kernel_rfl) (by kernel_rfl) (by kernel_rfl) (fun _ _ _ h => h) (Or.inl ⟨by rfl, by (intro W _; go_simp)⟩) ?_
    simp only [Act.put, List.setIfInBounds_toArray, List.set_cons_succ, List.set_cons_zero]
    refine wpAnyY_pure (i := 17) 69 (v := .pointer (some ⟨b, 0, none⟩)) rfl rfl (by kernel_rfl) (by kernel_rfl) (by kernel_rfl) (fun _ _ _ h => h) (Or.inl ⟨by rfl, by (intro W _; go_simp)⟩) ?_
    simp only [Act.put, List.setIfInBounds_toArray, List.set_cons_succ, List.set_cons_zero]
    refine wpAnyY_pure (i := 18) 70 (v := .pointer (some ⟨b, 0, none⟩)) rfl rfl (by kernel_rfl) (by kernel_rfl) (by kernel_rfl) (fun _ _ _ h => h) (Or.inl ⟨by rfl, by (intro W _; go_simp)⟩) ?_
    simp only [Act.put, List.setIfInBounds_toArray, List.set_cons_succ, List.set_cons_zero]
    refine wpAnyY_pure (i := 19) 71 (v := .pointer (some ⟨b, 1, none⟩)) rfl rfl (by kernel_rfl) (by kernel_rfl) (by kernel_rfl) (fun _ _ _ h => h) (Or.inl ⟨by rfl, by (intro W _; go_simp)⟩) ?_
    simp only [Act.put, List.setIfInBounds_toArray, List.set_cons_succ, List.set_cons_zero]
    refine wpAnyY_pure (i := 20) 72 (v := .pointer (some ⟨b, 8, none⟩)) rfl rfl (by kernel_rfl) (by kernel_rfl) (by kernel_rfl) (fun _ _ _ h => h) (Or.inl ⟨by rfl, by (intro W _; go_simp)⟩) ?_
    simp only [Act.put, List.setIfInBounds_toArray, List.set_cons_succ, List.set_cons_zero]
    refine wpAnyY_takeD (i := 21) 73 (v := .slice (some ⟨kb, ko, none⟩) s.k.n s.k.c) rfl rfl (by kernel_rfl) (by kernel_rfl) (late_of (by kernel_rfl)) (by kernel_rfl) (by kernel_rfl) (fun _ _ _ h => h) HS.out (Or.inl ⟨by rfl, by (intro W hW; obtain ⟨e0, e1, e2, e3, e4, e5, e6⟩ := hW; go_simp)⟩) ?_
    simp only [Act.put, List.setIfInBounds_toArray, List.set_cons_succ, List.set_cons_zero]
    refine wpAnyY_pure (i := 22) 74 (v := .pointer (some ⟨gb, 2, none⟩)) rfl rfl (by kernel_rfl) (by kernel_rfl) (by kernel_rfl) (fun _ _ _ h => h) (Or.inl ⟨by rfl, by (intro W _; go_simp)⟩) ?_
    simp only [Act.put, List.setIfInBounds_toArray, List.set_cons_succ, List.set_cons_zero]
    refine wpAnyY_takeD (i := 23) 75 (v := .int .i64 q) rfl rfl (by kernel_rfl) (by kernel_rfl) (late_of (by kernel_rfl)) (by kernel_rfl) (by kernel_rfl) (fun _ _ _ h => h) HS.out (Or.inl ⟨by rfl, by (intro W hW; obtain ⟨e0, e1, e2, e3, e4, e5, e6⟩ := hW; go_simp)⟩) ?_
    simp only [Act.put, List.setIfInBounds_toArray, List.set_cons_succ, List.set_cons_zero]
    refine wpAnyY_pure (i := 24) 76 (v := .pointer (some ⟨kb, ko + q, none⟩)) rfl rfl (by kernel_rfl) (by kernel_rfl) (by kernel_rfl) (fun _ _ _ h => h) (Or.inl ⟨by rfl, by (intro W _; go_simp)⟩) ?_
    simp only [Act.put, List.setIfInBounds_toArray, List.set_cons_succ, List.set_cons_zero]
    refine wpAnyY_takeD (i := 25) 77 (v := .int .i64 (c.consts.getD q 0)) rfl rfl (by kernel_rfl) (by kernel_rfl) (late_of (by kernel_rfl)) (by kernel_rfl) (by kernel_rfl) (fun _ _ _ h => h) HS.out (Or.inl ⟨by rfl, by (intro W hW; obtain ⟨e0, e1, e2, e3, e4, e5, e6⟩ := hW; go_simp)⟩) ?_
    simp only [Act.put, List.setIfInBounds_toArray, List.set_cons_succ, List.set_cons_zero]
    refine wpAnyY_pure (i := 26) 78 (v := .int .i64 (wrap64 (F.num + c.consts.getD q 0))) rfl rfl (by kernel_rfl) (by kernel_rfl) (by kernel_rfl) (fun _ _ _ h => h) (Or.inl ⟨by rfl, by (intro W _; go_simp; all_goals (first | exact IntWalk.i64_left _ | exact (IntWalk.i64_left _).trans (by unfold wrap64; omega)))⟩) ?_
    simp only [Act.put, List.setIfInBounds_toArray, List.set_cons_succ, List.set_cons_zero]
    refine wpAnyY_one (i := 27) rfl (by kernel_rfl) (fun Kc hKc => ?_)
    refine step_fnD 79 rfl (by rfl) 88 _ _ rfl Tryz.f88 Tryz.func88 (by kernel_rfl) (by kernel_rfl) #[.pointer (some ⟨g, 5, none⟩), .int .i64 p, .int .i64 i, .int .i64 j, .int .i64 (wrap64 (F.num + c.consts.getD q 0))] (by simp [Act.eval]) (HM.out) ?_
    rintro e wz ⟨rfl, hz⟩
    refine ⟨_, rfl, hKc.out _ _ (fun h => absurd h (by decide)) ?_⟩
    clear hKc Kc
    simp only [Act.put, List.setIfInBounds_toArray, List.set_cons_succ, List.set_cons_zero]
    refine wpAnyY_done (by kernel_rfl) ?_ _
    have HZ : Hid (Rn dq w0 wz b g gs c s sx sy sa x y i j K) := hz
    clear hz HS HM
    go_wp2
    go_end0
    exact ⟨rfl, HZ.out⟩
end
end Go.Proofs.YtnkfibahkmmnpaaGreat
