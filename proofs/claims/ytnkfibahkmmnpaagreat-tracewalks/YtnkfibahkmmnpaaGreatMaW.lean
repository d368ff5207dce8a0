/-
  The walk of table, inside: a number of the table is added.
-/
import Derived.Test.YtnkfibahkmmnpaaGreatKb
namespace Go.Proofs.YtnkfibahkmmnpaaGreat
open Go.RowKit

set_option maxRecDepth 10000 in
set_option maxHeartbeats 2000000 in
theorem table_walk {w : World} {b p : Nat} {o q r nm X1 Y1 T1 L A : Int} {tb tt tn tc xb xo xn xc yb yo yn yc i1 j1 kk : Nat} (hp : p < 16) (hlb : b < w.heap.size)
    (hS : (fun W : World => W.cell? ⟨b, 15 + p * 3 + 2, none⟩ = some (.int .i64 nm) ∧ W.cell? ⟨b, 7, none⟩ = some (.slice (some ⟨tb, tt, none⟩) tn tc) ∧ W.cell? ⟨b, 11, none⟩ = some (.slice (some ⟨xb, xo, none⟩) xn xc) ∧ W.cell? ⟨b, 13, none⟩ = some (.int .i64 ((i1 : Int) + 1)) ∧ W.cell? ⟨xb, xo + i1, none⟩ = some (.int .i64 X1) ∧ W.cell? ⟨b, 1, none⟩ = some (.int .i64 L) ∧ W.cell? ⟨b, 12, none⟩ = some (.slice (some ⟨yb, yo, none⟩) yn yc) ∧ W.cell? ⟨b, 14, none⟩ = some (.int .i64 ((j1 : Int) + 1)) ∧ W.cell? ⟨yb, yo + j1, none⟩ = some (.int .i64 Y1) ∧ W.cell? ⟨tb, tt + kk, none⟩ = some (.int .i64 T1)) w) (hf : w.frozen? ⟨b, 15 + p * 3 + 2, none⟩ = false) (hr : w.cell? ⟨b, 15 + p * 3, none⟩ = some (.bool true)) (hx : i1 < xn) (hy : j1 < yn) (ht : kk < tn) (hA : X1 * L = A) (hA0 : 0 ≤ A ∧ A ≤ 1000) (hk : A + Y1 = kk) (hkb : kk < 2000) (hb1 : xn ≤ 4611686018427387904) (hb2 : yn ≤ 4611686018427387904) (hlow : xb < w.heap.size ∧ yb < w.heap.size ∧ tb < w.heap.size) :
    Calls Tryz.prog 58 #[.pointer (some ⟨b, 0, none⟩), .agg #[.int .i64 o, .int .i64 p, .int .i64 q, .int .i64 r]] w fun e w' => e = .returned (.tuple #[]) ∧ ∃ m, w' = ((w.alloc (.cells #[.int .i64 o, .int .i64 p, .int .i64 q, .int .i64 r] 65)).drewN m).setCell ⟨b, 15 + p * 3 + 2, none⟩ (.int .i64 (wrap64 (nm + T1))) := by
  obtain ⟨s0, s1, s2, s3, s4, s5, s6, s7, s8, s9⟩ := hS
  obtain ⟨l1, l2, l3⟩ := hlow
  have hpi : (p : Int) < 16 := by omega
  have hB : Below w.heap.size w (w.alloc (.cells #[.int .i64 o, .int .i64 p, .int .i64 q, .int .i64 r] 65)) := below_new _
  have a0 := (hB.cell (p := ⟨b, 15 + p * 3 + 2, none⟩) hlb).trans s0
  have a1 := (hB.cell (p := ⟨b, 7, none⟩) hlb).trans s1
  have a2 := (hB.cell (p := ⟨b, 11, none⟩) hlb).trans s2
  have a3 := (hB.cell (p := ⟨b, 13, none⟩) hlb).trans s3
  have a4 := (hB.cell (p := ⟨xb, xo + i1, none⟩) l1).trans s4
  have a5 := (hB.cell (p := ⟨b, 1, none⟩) hlb).trans s5
  have a6 := (hB.cell (p := ⟨b, 12, none⟩) hlb).trans s6
  have a7 := (hB.cell (p := ⟨b, 14, none⟩) hlb).trans s7
  have a8 := (hB.cell (p := ⟨yb, yo + j1, none⟩) l2).trans s8
  have a9 := (hB.cell (p := ⟨tb, tt + kk, none⟩) l3).trans s9
  have ar := (hB.cell (p := ⟨b, 15 + p * 3, none⟩) hlb).trans hr
  have af := (hB.frozen (p := ⟨b, 15 + p * 3 + 2, none⟩) hlb).trans hf
  have HB : Hid ((w.alloc (.cells #[.int .i64 o, .int .i64 p, .int .i64 q, .int .i64 r] 65)).heap[w.heap.size]? = some (.cells #[.int .i64 o, .int .i64 p, .int .i64 q, .int .i64 r] 65 (0, 0))) := heap_alloc_new _ _
  have b0 : (((i1 : Int) + 1) == 0) = false := by simp; omega
  have b1 : (((j1 : Int) + 1) == 0) = false := by simp; omega
  clear s0 s1 s2 s3 s4 s5 s6 s7 s8 s9 hr hf hB
  go_enter Tryz.func58, Tryz.ntmps58
  go_upto_region 1 with (fail)
  generalize hwd : w.alloc (.cells #[.int .i64 o, .int .i64 p, .int .i64 q, .int .i64 r] 65) = wd at *
  generalize w.heap.size = gb at *
  have q1 := cell_block HB.out 1 _ rfl
  go_quiet (fail)
  go_upto_region 5 with (fail)
  have HS : Hid ((fun W : World => W.cell? ⟨b, 15 + p * 3 + 2, none⟩ = some (.int .i64 nm) ∧ W.cell? ⟨b, 7, none⟩ = some (.slice (some ⟨tb, tt, none⟩) tn tc) ∧ W.cell? ⟨b, 11, none⟩ = some (.slice (some ⟨xb, xo, none⟩) xn xc) ∧ W.cell? ⟨b, 13, none⟩ = some (.int .i64 ((i1 : Int) + 1)) ∧ W.cell? ⟨xb, xo + i1, none⟩ = some (.int .i64 X1) ∧ W.cell? ⟨b, 1, none⟩ = some (.int .i64 L) ∧ W.cell? ⟨b, 12, none⟩ = some (.slice (some ⟨yb, yo, none⟩) yn yc) ∧ W.cell? ⟨b, 14, none⟩ = some (.int .i64 ((j1 : Int) + 1)) ∧ W.cell? ⟨yb, yo + j1, none⟩ = some (.int .i64 Y1) ∧ W.cell? ⟨tb, tt + kk, none⟩ = some (.int .i64 T1)) (wd.drewN nq).drew) := ⟨a0, a1, a2, a3, a4, a5, a6, a7, a8, a9⟩
  clear a1 a2 a3 a4 a5 a6 a7 a8 a9 ar q1
  refine wp_region_Y (fun j => [43].contains j) (fun W : World => W.cell? ⟨b, 15 + p * 3 + 2, none⟩ = some (.int .i64 nm) ∧ W.cell? ⟨b, 7, none⟩ = some (.slice (some ⟨tb, tt, none⟩) tn tc) ∧ W.cell? ⟨b, 11, none⟩ = some (.slice (some ⟨xb, xo, none⟩) xn xc) ∧ W.cell? ⟨b, 13, none⟩ = some (.int .i64 ((i1 : Int) + 1)) ∧ W.cell? ⟨xb, xo + i1, none⟩ = some (.int .i64 X1) ∧ W.cell? ⟨b, 1, none⟩ = some (.int .i64 L) ∧ W.cell? ⟨b, 12, none⟩ = some (.slice (some ⟨yb, yo, none⟩) yn yc) ∧ W.cell? ⟨b, 14, none⟩ = some (.int .i64 ((j1 : Int) + 1)) ∧ W.cell? ⟨yb, yo + j1, none⟩ = some (.int .i64 Y1) ∧ W.cell? ⟨tb, tt + kk, none⟩ = some (.int .i64 T1)) (by kernel_rfl) ?_
  refine wpAnyY_pure (i := 0) 35 (v := .pointer (some ⟨b, 15 + p * 3, none⟩)) rfl rfl (by kernel_rfl) (by kernel_rfl) (by kernel_rfl) (fun _ _ _ h => h) (Or.inl ⟨by rfl, by (intro W _; go_simp)⟩) ?_
  simp only [Act.put, List.setIfInBounds_toArray, List.set_cons_succ, List.set_cons_zero]
  refine wpAnyY_pure (i := 1) 36 (v := .pointer (some ⟨b, 15 + p * 3, none⟩)) rfl rfl (by kernel_rfl) (by kernel_rfl) (by kernel_rfl) (fun _ _ _ h => h) (Or.inl ⟨by rfl, by (intro W _; go_simp)⟩) ?_
  simp only [Act.put, List.setIfInBounds_toArray, List.set_cons_succ, List.set_cons_zero]
  refine wpAnyY_pure (i := 2) 37 (v := .pointer (some ⟨b, 15 + p * 3 + 2, none⟩)) rfl rfl (by kernel_rfl) (by kernel_rfl) (by kernel_rfl) (fun _ _ _ h => h) (Or.inl ⟨by rfl, by (intro W _; go_simp)⟩) ?_
  simp only [Act.put, List.setIfInBounds_toArray, List.set_cons_succ, List.set_cons_zero]
  refine wpAnyY_takeD (i := 3) 38 (v := .int .i64 nm) rfl rfl (by kernel_rfl) (by kernel_rfl) (late_of (by kernel_rfl)) (by kernel_rfl) (by kernel_rfl) (fun _ _ _ h => h) HS.out (Or.inl ⟨by rfl, by (intro W hW; obtain ⟨e0, e1, e2, e3, e4, e5, e6, e7, e8, e9⟩ := hW; go_simp)⟩) ?_
  simp only [Act.put, List.setIfInBounds_toArray, List.set_cons_succ, List.set_cons_zero]
  refine wpAnyY_pure (i := 4) 39 (v := .pointer (some ⟨b, 0, none⟩)) rfl rfl (by kernel_rfl) (by kernel_rfl) (by kernel_rfl) (fun _ _ _ h => h) (Or.inl ⟨by rfl, by (intro W _; go_simp)⟩) ?_
  simp only [Act.put, List.setIfInBounds_toArray, List.set_cons_succ, List.set_cons_zero]
  refine wpAnyY_pure (i := 5) 40 (v := .pointer (some ⟨b, 0, none⟩)) rfl rfl (by kernel_rfl) (by kernel_rfl) (by kernel_rfl) (fun _ _ _ h => h) (Or.inl ⟨by rfl, by (intro W _; go_simp)⟩) ?_
  simp only [Act.put, List.setIfInBounds_toArray, List.set_cons_succ, List.set_cons_zero]
  refine wpAnyY_pure (i := 6) 41 (v := .pointer (some ⟨b, 1, none⟩)) rfl rfl (by kernel_rfl) (by kernel_rfl) (by kernel_rfl) (fun _ _ _ h => h) (Or.inl ⟨by rfl, by (intro W _; go_simp)⟩) ?_
  simp only [Act.put, List.setIfInBounds_toArray, List.set_cons_succ, List.set_cons_zero]
  refine wpAnyY_pure (i := 7) 42 (v := .pointer (some ⟨b, 7, none⟩)) rfl rfl (by kernel_rfl) (by kernel_rfl) (by kernel_rfl) (fun _ _ _ h => h) (Or.inl ⟨by rfl, by (intro W _; go_simp)⟩) ?_
  simp only [Act.put, List.setIfInBounds_toArray, List.set_cons_succ, List.set_cons_zero]
  refine wpAnyY_takeD (i := 8) 43 (v := .slice (some ⟨tb, tt, none⟩) tn tc) rfl rfl (by kernel_rfl) (by kernel_rfl) (late_of (by kernel_rfl)) (by kernel_rfl) (by kernel_rfl) (fun _ _ _ h => h) HS.out (Or.inl ⟨by rfl, by (intro W hW; obtain ⟨e0, e1, e2, e3, e4, e5, e6, e7, e8, e9⟩ := hW; go_simp)⟩) ?_
  simp only [Act.put, List.setIfInBounds_toArray, List.set_cons_succ, List.set_cons_zero]
  refine wpAnyY_pure (i := 9) 44 (v := .pointer (some ⟨b, 0, none⟩)) rfl rfl (by kernel_rfl) (by kernel_rfl) (by kernel_rfl) (fun _ _ _ h => h) (Or.inl ⟨by rfl, by (intro W _; go_simp)⟩) ?_
  simp only [Act.put, List.setIfInBounds_toArray, List.set_cons_succ, List.set_cons_zero]
  refine wpAnyY_pure (i := 10) 45 (v := .pointer (some ⟨b, 0, none⟩)) rfl rfl (by kernel_rfl) (by kernel_rfl) (by kernel_rfl) (fun _ _ _ h => h) (Or.inl ⟨by rfl, by (intro W _; go_simp)⟩) ?_
  simp only [Act.put, List.setIfInBounds_toArray, List.set_cons_succ, List.set_cons_zero]
  refine wpAnyY_pure (i := 11) 46 (v := .pointer (some ⟨b, 11, none⟩)) rfl rfl (by kernel_rfl) (by kernel_rfl) (by kernel_rfl) (fun _ _ _ h => h) (Or.inl ⟨by rfl, by (intro W _; go_simp)⟩) ?_
  simp only [Act.put, List.setIfInBounds_toArray, List.set_cons_succ, List.set_cons_zero]
  refine wpAnyY_takeD (i := 12) 47 (v := .slice (some ⟨xb, xo, none⟩) xn xc) rfl rfl (by kernel_rfl) (by kernel_rfl) (late_of (by kernel_rfl)) (by kernel_rfl) (by kernel_rfl) (fun _ _ _ h => h) HS.out (Or.inl ⟨by rfl, by (intro W hW; obtain ⟨e0, e1, e2, e3, e4, e5, e6, e7, e8, e9⟩ := hW; go_simp)⟩) ?_
  simp only [Act.put, List.setIfInBounds_toArray, List.set_cons_succ, List.set_cons_zero]
  refine wpAnyY_pure (i := 13) 48 (v := .pointer (some ⟨b, 0, none⟩)) rfl rfl (by kernel_rfl) (by kernel_rfl) (by kernel_rfl) (fun _ _ _ h => h) (Or.inl ⟨by rfl, by (intro W _; go_simp)⟩) ?_
  simp only [Act.put, List.setIfInBounds_toArray, List.set_cons_succ, List.set_cons_zero]
  refine wpAnyY_pure (i := 14) 49 (v := .pointer (some ⟨b, 0, none⟩)) rfl rfl (by kernel_rfl) (by kernel_rfl) (by kernel_rfl) (fun _ _ _ h => h) (Or.inl ⟨by rfl, by (intro W _; go_simp)⟩) ?_
  simp only [Act.put, List.setIfInBounds_toArray, List.set_cons_succ, List.set_cons_zero]
  refine wpAnyY_pure (i := 15) 50 (v := .pointer (some ⟨b, 13, none⟩)) rfl rfl (by kernel_rfl) (by kernel_rfl) (by kernel_rfl) (fun _ _ _ h => h) (Or.inl ⟨by rfl, by (intro W _; go_simp)⟩) ?_
  simp only [Act.put, List.setIfInBounds_toArray, List.set_cons_succ, List.set_cons_zero]
  refine wpAnyY_takeD (i := 16) 51 (v := .int .i64 ((i1 : Int) + 1)) rfl rfl (by kernel_rfl) (by kernel_rfl) (late_of (by kernel_rfl)) (by kernel_rfl) (by kernel_rfl) (fun _ _ _ h => h) HS.out (Or.inl ⟨by rfl, by (intro W hW; obtain ⟨e0, e1, e2, e3, e4, e5, e6, e7, e8, e9⟩ := hW; go_simp)⟩) ?_
  simp only [Act.put, List.setIfInBounds_toArray, List.set_cons_succ, List.set_cons_zero]
  refine wpAnyY_pure (i := 17) 52 (v := .int .i64 i1) rfl rfl (by kernel_rfl) (by kernel_rfl) (by kernel_rfl) (fun _ _ _ h => h) (Or.inl ⟨by rfl, by (intro W _; go_simp; all_goals (first | exact IntWalk.i64_left _ | exact (IntWalk.i64_left _).trans (by unfold wrap64; omega)))⟩) ?_
  simp only [Act.put, List.setIfInBounds_toArray, List.set_cons_succ, List.set_cons_zero]
  refine wpAnyY_pure (i := 18) 53 (v := .pointer (some ⟨xb, xo + i1, none⟩)) rfl rfl (by kernel_rfl) (by kernel_rfl) (by kernel_rfl) (fun _ _ _ h => h) (Or.inl ⟨by rfl, by (intro W _; go_simp)⟩) ?_
  simp only [Act.put, List.setIfInBounds_toArray, List.set_cons_succ, List.set_cons_zero]
  refine wpAnyY_takeD (i := 19) 54 (v := .int .i64 X1) rfl rfl (by kernel_rfl) (by kernel_rfl) (late_of (by kernel_rfl)) (by kernel_rfl) (by kernel_rfl) (fun _ _ _ h => h) HS.out (Or.inl ⟨by rfl, by (intro W hW; obtain ⟨e0, e1, e2, e3, e4, e5, e6, e7, e8, e9⟩ := hW; go_simp)⟩) ?_
  simp only [Act.put, List.setIfInBounds_toArray, List.set_cons_succ, List.set_cons_zero]
  refine wpAnyY_pure (i := 20) 55 (v := .pointer (some ⟨b, 0, none⟩)) rfl rfl (by kernel_rfl) (by kernel_rfl) (by kernel_rfl) (fun _ _ _ h => h) (Or.inl ⟨by rfl, by (intro W _; go_simp)⟩) ?_
  simp only [Act.put, List.setIfInBounds_toArray, List.set_cons_succ, List.set_cons_zero]
  refine wpAnyY_pure (i := 21) 56 (v := .pointer (some ⟨b, 0, none⟩)) rfl rfl (by kernel_rfl) (by kernel_rfl) (by kernel_rfl) (fun _ _ _ h => h) (Or.inl ⟨by rfl, by (intro W _; go_simp)⟩) ?_
  simp only [Act.put, List.setIfInBounds_toArray, List.set_cons_succ, List.set_cons_zero]
  refine wpAnyY_pure (i := 22) 57 (v := .pointer (some ⟨b, 1, none⟩)) rfl rfl (by kernel_rfl) (by kernel_rfl) (by kernel_rfl) (fun _ _ _ h => h) (Or.inl ⟨by rfl, by (intro W _; go_simp)⟩) ?_
  simp only [Act.put, List.setIfInBounds_toArray, List.set_cons_succ, List.set_cons_zero]
  refine wpAnyY_pure (i := 23) 58 (v := .pointer (some ⟨b, 1, none⟩)) rfl rfl (by kernel_rfl) (by kernel_rfl) (by kernel_rfl) (fun _ _ _ h => h) (Or.inl ⟨by rfl, by (intro W _; go_simp)⟩) ?_
  simp only [Act.put, List.setIfInBounds_toArray, List.set_cons_succ, List.set_cons_zero]
  refine wpAnyY_takeD (i := 24) 59 (v := .int .i64 L) rfl rfl (by kernel_rfl) (by kernel_rfl) (late_of (by kernel_rfl)) (by kernel_rfl) (by kernel_rfl) (fun _ _ _ h => h) HS.out (Or.inl ⟨by rfl, by (intro W hW; obtain ⟨e0, e1, e2, e3, e4, e5, e6, e7, e8, e9⟩ := hW; go_simp)⟩) ?_
  simp only [Act.put, List.setIfInBounds_toArray, List.set_cons_succ, List.set_cons_zero]
  refine wpAnyY_pure (i := 25) 60 (v := .int .i64 A) rfl rfl (by kernel_rfl) (by kernel_rfl) (by kernel_rfl) (fun _ _ _ h => h) (Or.inl ⟨by rfl, by (intro W _; go_simp; all_goals (first | exact IntWalk.i64_left _ | exact (IntWalk.i64_left _).trans (by unfold wrap64; omega)))⟩) ?_
  simp only [Act.put, List.setIfInBounds_toArray, List.set_cons_succ, List.set_cons_zero]
  refine wpAnyY_pure (i := 26) 61 (v := .pointer (some ⟨b, 0, none⟩)) rfl rfl (by kernel_rfl) (by kernel_rfl) (by kernel_rfl) (fun _ _ _ h => h) (Or.inl ⟨by rfl, by (intro W _; go_simp)⟩) ?_
  simp only [Act.put, List.setIfInBounds_toArray, List.set_cons_succ, List.set_cons_zero]
  refine wpAnyY_pure (i := 27) 62 (v := .pointer (some ⟨b, 0, none⟩)) rfl rfl (by kernel_rfl) (by kernel_rfl) (by kernel_rfl) (fun _ _ _ h => h) (Or.inl ⟨by rfl, by (intro W _; go_simp)⟩) ?_
  simp only [Act.put, List.setIfInBounds_toArray, List.set_cons_succ, List.set_cons_zero]
  refine wpAnyY_pure (i := 28) 63 (v := .pointer (some ⟨b, 12, none⟩)) rfl rfl (by kernel_rfl) (by kernel_rfl) (by kernel_rfl) (fun _ _ _ h => h) (Or.inl ⟨by rfl, by (intro W _; go_simp)⟩) ?_
  simp only [Act.put, List.setIfInBounds_toArray, List.set_cons_succ, List.set_cons_zero]
  refine wpAnyY_takeD (i := 29) 64 (v := .slice (some ⟨yb, yo, none⟩) yn yc) rfl rfl (by kernel_rfl) (by kernel_rfl) (late_of (by kernel_rfl)) (by kernel_rfl) (by kernel_rfl) (fun _ _ _ h => h) HS.out (Or.inl ⟨by rfl, by (intro W hW; obtain ⟨e0, e1, e2, e3, e4, e5, e6, e7, e8, e9⟩ := hW; go_simp)⟩) ?_
  simp only [Act.put, List.setIfInBounds_toArray, List.set_cons_succ, List.set_cons_zero]
  refine wpAnyY_pure (i := 30) 65 (v := .pointer (some ⟨b, 0, none⟩)) rfl rfl (by kernel_rfl) (by kernel_rfl) (by kernel_rfl) (fun _ _ _ h => h) (Or.inl ⟨by rfl, by (intro W _; go_simp)⟩) ?_
  simp only [Act.put, List.setIfInBounds_toArray, List.set_cons_succ, List.set_cons_zero]
  refine wpAnyY_pure (i := 31) 66 (v := .pointer (some ⟨b, 0, none⟩)) rfl rfl (by kernel_rfl) (by kernel_rfl) (by kernel_rfl) (fun _ _ _ h => h) (Or.inl ⟨by rfl, by (intro W _; go_simp)⟩) ?_
  simp only [Act.put, List.setIfInBounds_toArray, List.set_cons_succ, List.set_cons_zero]
  refine wpAnyY_pure (i := 32) 67 (v := .pointer (some ⟨b, 14, none⟩)) rfl rfl (by kernel_rfl) (by kernel_rfl) (by kernel_rfl) (fun _ _ _ h => h) (Or.inl ⟨by rfl, by (intro W _; go_simp)⟩) ?_
  simp only [Act.put, List.setIfInBounds_toArray, List.set_cons_succ, List.set_cons_zero]
  refine wpAnyY_takeD (i := 33) 68 (v := .int .i64 ((j1 : Int) + 1)) rfl rfl (by kernel_rfl) (by kernel_rfl) (late_of (by kernel_rfl)) (by kernel_rfl) (by kernel_rfl) (fun _ _ _ h => h) HS.out (Or.inl ⟨by rfl, by (intro W hW; obtain ⟨e0, e1, e2, e3, e4, e5, e6, e7, e8, e9⟩ := hW; go_simp)⟩) ?_
  simp only [Act.put, List.setIfInBounds_toArray, List.set_cons_succ, List.set_cons_zero]
  refine wpAnyY_pure (i := 34) 69 (v := .int .i64 j1) rfl rfl (by kernel_rfl) (by kernel_rfl) (by kernel_rfl) (fun _ _ _ h => h) (Or.inl ⟨by rfl, by (intro W _; go_simp; all_goals (first | exact IntWalk.i64_left _ | exact (IntWalk.i64_left _).trans (by unfold wrap64; omega)))⟩) ?_
  simp only [Act.put, List.setIfInBounds_toArray, List.set_cons_succ, List.set_cons_zero]
  refine wpAnyY_pure (i := 35) 70 (v := .pointer (some ⟨yb, yo + j1, none⟩)) rfl rfl (by kernel_rfl) (by kernel_rfl) (by kernel_rfl) (fun _ _ _ h => h) (Or.inl ⟨by rfl, by (intro W _; go_simp)⟩) ?_
  simp only [Act.put, List.setIfInBounds_toArray, List.set_cons_succ, List.set_cons_zero]
  refine wpAnyY_takeD (i := 36) 71 (v := .int .i64 Y1) rfl rfl (by kernel_rfl) (by kernel_rfl) (late_of (by kernel_rfl)) (by kernel_rfl) (by kernel_rfl) (fun _ _ _ h => h) HS.out (Or.inl ⟨by rfl, by (intro W hW; obtain ⟨e0, e1, e2, e3, e4, e5, e6, e7, e8, e9⟩ := hW; go_simp)⟩) ?_
  simp only [Act.put, List.setIfInBounds_toArray, List.set_cons_succ, List.set_cons_zero]
  refine wpAnyY_pure (i := 37) 72 (v := .int .i64 kk) rfl rfl (by kernel_rfl) (by kernel_rfl) (by kernel_rfl) (fun _ _ _ h => h) (Or.inl ⟨by rfl, by (intro W _; go_simp; all_goals (first | exact IntWalk.i64_left _ | exact (IntWalk.i64_left _).trans (by unfold wrap64; omega)))⟩) ?_
  simp only [Act.put, List.setIfInBounds_toArray, List.set_cons_succ, List.set_cons_zero]
  refine wpAnyY_pure (i := 38) 73 (v := .pointer (some ⟨tb, tt + kk, none⟩)) rfl rfl (by kernel_rfl) (by kernel_rfl) (by kernel_rfl) (fun _ _ _ h => h) (Or.inl ⟨by rfl, by (intro W _; go_simp)⟩) ?_
  simp only [Act.put, List.setIfInBounds_toArray, List.set_cons_succ, List.set_cons_zero]
  refine wpAnyY_takeD (i := 39) 74 (v := .int .i64 T1) rfl rfl (by kernel_rfl) (by kernel_rfl) (late_of (by kernel_rfl)) (by kernel_rfl) (by kernel_rfl) (fun _ _ _ h => h) HS.out (Or.inl ⟨by rfl, by (intro W hW; obtain ⟨e0, e1, e2, e3, e4, e5, e6, e7, e8, e9⟩ := hW; go_simp)⟩) ?_
  simp only [Act.put, List.setIfInBounds_toArray, List.set_cons_succ, List.set_cons_zero]
  refine wpAnyY_pure (i := 40) 75 (v := .int .i64 (wrap64 (nm + T1))) rfl rfl (by kernel_rfl) (by kernel_rfl) (by kernel_rfl) (fun _ _ _ h => h) (Or.inl ⟨by rfl, by (intro W _; go_simp; all_goals (first | exact IntWalk.i64_left _ | exact (IntWalk.i64_left _).trans (by unfold wrap64; omega)))⟩) ?_
  simp only [Act.put, List.setIfInBounds_toArray, List.set_cons_succ, List.set_cons_zero]
  refine wpAnyY_pure (i := 41) 76 (v := .pointer (some ⟨b, 15 + p * 3, none⟩)) rfl rfl (by kernel_rfl) (by kernel_rfl) (by kernel_rfl) (fun _ _ _ h => h) (Or.inl ⟨by rfl, by (intro W _; go_simp)⟩) ?_
  simp only [Act.put, List.setIfInBounds_toArray, List.set_cons_succ, List.set_cons_zero]
  refine wpAnyY_pure (i := 42) 77 (v := .pointer (some ⟨b, 15 + p * 3 + 2, none⟩)) rfl rfl (by kernel_rfl) (by kernel_rfl) (by kernel_rfl) (fun _ _ _ h => h) (Or.inl ⟨by rfl, by (intro W _; go_simp)⟩) ?_
  simp only [Act.put, List.setIfInBounds_toArray, List.set_cons_succ, List.set_cons_zero]
  refine wpAnyY_one (i := 43) rfl (by kernel_rfl) (fun Kc hKc => ?_)
  go_simp
  refine hKc.out _ _ (fun h => absurd h (by decide)) ?_
  clear hKc Kc
  refine wpAnyY_done (by kernel_rfl) ?_ _
  go_wp2
  go_end0
  exact ⟨rfl, nq + 1, rfl⟩
end Go.Proofs.YtnkfibahkmmnpaaGreat
