/-
  The walk of the document's does: numbers that are added, ends.
-/
import Derived.Test.YtnkfibahkmmnpaaGreatDrw
import Derived.Test.YtnkfibahkmmnpaaGreatKg
namespace Go.Proofs.YtnkfibahkmmnpaaGreat
open Go.RowKit

section
variable {w0 w : World} {b : Nat} {c : Cd} {s : Ls} {S : St} {wv : Nat → Value} {gr gk gw R P : Nat}
theorem past45 (S : St) (o : Int) (x y z : Nat) (h : o = 4 ∨ o = 5) : pastP S (o, x, y, z) = weighP (setR S x (addB (S.regs x))) ((S.regs x).weight + 1) := by
  rcases h with rfl | rfl <;> simp [pastP]
theorem past8 (S : St) (x y z : Nat) : pastP S (8, x, y, z) = weighP S ((S.pl x).2 + 1) := by simp [pastP]
theorem Dl.add (h : Dl w0 w b c s S wv gr gk gw R P) (k : Nat) (hk : k < R) : Dl w0 (w.setCell ⟨gr, k * 7 + 6, none⟩ (.int .i64 ((S.regs k).weight + 1))) b c s (setR S k (addB (S.regs k))) wv gr gk gw R P :=
  h.putK hk (by omega) (addB (S.regs k)) (seven rfl rfl rfl rfl rfl rfl rfl) rfl
set_option maxRecDepth 10000 in
set_option maxHeartbeats 1000000 in
theorem ddoes4 (x y z : Nat) (h : Dl w0 w b c s S wv gr gk gw R P) (hn : x < R) (hw0 : 0 ≤ (S.regs x).weight) (hw1 : (S.regs x).weight ≤ 1000) :
    Calls Tryz.prog 68 #[.pointer (some ⟨b, 0, none⟩), .agg #[.int .i64 4, .int .i64 x, .int .i64 y, .int .i64 z]] w fun e w' => e = .returned (.tuple #[]) ∧ ∃ wv', Dl w0 w' b c s (pastP S (4, x, y, z)) wv' gr gk gw R P := by
  have hlb := lt_block h.box
  have hlr := lt_block h.regs
  have k10 := h.cell 10 (v := .slice (some ⟨gr, 0, none⟩) R R) rfl
  have r6 := h.reg x 6 hn (by omega) (v := .int .i64 (S.regs x).weight) rfl
  have rf := h.rfz
  have HP : Hid (pastP S (4, x, y, z) = _) := past45 S 4 x y z (by decide)
  have HD : Hid (∀ o, Dl w0 ((w.setCell ⟨gr, x * 7 + 6, none⟩ (.int .i64 ((S.regs x).weight + 1))).alloc o).drew b c s (setR S x (addB (S.regs x))) wv gr gk gw R P) := fun o => ((h.add x hn).alloc o).drew
  clear h
  go_enter Tryz.func68, Tryz.ntmps68
  go_wp2_with fail
  go_region
  clear k10 r6 rf
  go_upto_region 15 with (fail)
  have HW := HD.out (.cells #[.int .i64 4, .int .i64 x, .int .i64 y, .int .i64 z] 65)
  have HB : Hid (((w.setCell ⟨gr, x * 7 + 6, none⟩ (.int .i64 ((S.regs x).weight + 1))).alloc (.cells #[.int .i64 4, .int .i64 x, .int .i64 y, .int .i64 z] 65)).drew.heap[w.heap.size]? = some (.cells #[.int .i64 4, .int .i64 x, .int .i64 y, .int .i64 z] 65 (0, 0))) := by
    have := heap_alloc_new (w.setCell ⟨gr, x * 7 + 6, none⟩ (.int .i64 ((S.regs x).weight + 1))) (.cells #[.int .i64 4, .int .i64 x, .int .i64 y, .int .i64 z] 65)
    rw [show (w.setCell ⟨gr, x * 7 + 6, none⟩ (.int .i64 ((S.regs x).weight + 1))).heap.size = w.heap.size by simp] at this
    exact this
  have HW2 : Hid _ := HW
  clear HD HW
  generalize ((w.setCell ⟨gr, x * 7 + 6, none⟩ (.int .i64 ((S.regs x).weight + 1))).alloc (.cells #[.int .i64 4, .int .i64 x, .int .i64 y, .int .i64 z] 65)).drew = wd at *
  generalize w.heap.size = gb at *
  have HS : Hid (wd.drew.cell? ⟨b, 10, none⟩ = some (.slice (some ⟨gr, 0, none⟩) R R) ∧ wd.drew.cell? ⟨gb, 1, none⟩ = some (.int .i64 x) ∧ wd.drew.cell? ⟨gr, x * 7 + 6, none⟩ = some (.int .i64 ((S.regs x).weight + 1))) :=
    ⟨HW2.out.cell 10 rfl, cell_block HB.out 1 _ rfl, HW2.out.reg x 6 hn (by omega) (by show rdCell (updR S.regs x (addB (S.regs x)) x) _ 6 = _; rw [updR_same]; rfl)⟩
  have HW3 : Hid (Dl w0 wd.drew b c s (setR S x (addB (S.regs x))) wv gr gk gw R P) := HW2.out.drew
  clear HW2 HB
  refine wp_region_Y (fun j => [10].contains j) (fun W : World => W.cell? ⟨b, 10, none⟩ = some (.slice (some ⟨gr, 0, none⟩) R R) ∧ W.cell? ⟨gb, 1, none⟩ = some (.int .i64 x) ∧ W.cell? ⟨gr, x * 7 + 6, none⟩ = some (.int .i64 ((S.regs x).weight + 1))) (by kernel_rfl) ?_
  refine wpAnyY_pure (i := 0) 81 (v := .pointer (some ⟨b, 0, none⟩)) rfl rfl (by kernel_rfl) (by kernel_rfl) (by kernel_rfl) (fun _ _ _ h => h) (Or.inl ⟨by rfl, by (intro W _; go_simp)⟩) ?_
  simp only [Act.put, List.setIfInBounds_toArray, List.set_cons_succ, List.set_cons_zero]
  refine wpAnyY_pure (i := 1) 82 (v := .pointer (some ⟨b, 0, none⟩)) rfl rfl (by kernel_rfl) (by kernel_rfl) (by kernel_rfl) (fun _ _ _ h => h) (Or.inl ⟨by rfl, by (intro W _; go_simp)⟩) ?_
  simp only [Act.put, List.setIfInBounds_toArray, List.set_cons_succ, List.set_cons_zero]
  refine wpAnyY_pure (i := 2) 83 (v := .pointer (some ⟨b, 0, none⟩)) rfl rfl (by kernel_rfl) (by kernel_rfl) (by kernel_rfl) (fun _ _ _ h => h) (Or.inl ⟨by rfl, by (intro W _; go_simp)⟩) ?_
  simp only [Act.put, List.setIfInBounds_toArray, List.set_cons_succ, List.set_cons_zero]
  refine wpAnyY_pure (i := 3) 84 (v := .pointer (some ⟨b, 10, none⟩)) rfl rfl (by kernel_rfl) (by kernel_rfl) (by kernel_rfl) (fun _ _ _ h => h) (Or.inl ⟨by rfl, by (intro W _; go_simp)⟩) ?_
  simp only [Act.put, List.setIfInBounds_toArray, List.set_cons_succ, List.set_cons_zero]
  refine wpAnyY_takeD (i := 4) 85 (v := .slice (some ⟨gr, 0, none⟩) R R) rfl rfl (by kernel_rfl) (by kernel_rfl) (late_of (by kernel_rfl)) (by kernel_rfl) (by kernel_rfl) (fun _ _ _ h => h) HS.out (Or.inl ⟨by rfl, by (intro W hW; obtain ⟨e0, e1, e2⟩ := hW; go_simp)⟩) ?_
  simp only [Act.put, List.setIfInBounds_toArray, List.set_cons_succ, List.set_cons_zero]
  refine wpAnyY_pure (i := 5) 86 (v := .pointer (some ⟨gb, 1, none⟩)) rfl rfl (by kernel_rfl) (by kernel_rfl) (by kernel_rfl) (fun _ _ _ h => h) (Or.inl ⟨by rfl, by (intro W _; go_simp)⟩) ?_
  simp only [Act.put, List.setIfInBounds_toArray, List.set_cons_succ, List.set_cons_zero]
  refine wpAnyY_takeD (i := 6) 87 (v := .int .i64 x) rfl rfl (by kernel_rfl) (by kernel_rfl) (late_of (by kernel_rfl)) (by kernel_rfl) (by kernel_rfl) (fun _ _ _ h => h) HS.out (Or.inl ⟨by rfl, by (intro W hW; obtain ⟨e0, e1, e2⟩ := hW; go_simp)⟩) ?_
  simp only [Act.put, List.setIfInBounds_toArray, List.set_cons_succ, List.set_cons_zero]
  refine wpAnyY_pure (i := 7) 88 (v := .pointer (some ⟨gr, x * 7, none⟩)) rfl rfl (by kernel_rfl) (by kernel_rfl) (by kernel_rfl) (fun _ _ _ h => h) (Or.inl ⟨by rfl, by (intro W _; go_simp)⟩) ?_
  simp only [Act.put, List.setIfInBounds_toArray, List.set_cons_succ, List.set_cons_zero]
  refine wpAnyY_pure (i := 8) 89 (v := .pointer (some ⟨gr, x * 7 + 6, none⟩)) rfl rfl (by kernel_rfl) (by kernel_rfl) (by kernel_rfl) (fun _ _ _ h => h) (Or.inl ⟨by rfl, by (intro W _; go_simp)⟩) ?_
  simp only [Act.put, List.setIfInBounds_toArray, List.set_cons_succ, List.set_cons_zero]
  refine wpAnyY_takeD (i := 9) 90 (v := .int .i64 ((S.regs x).weight + 1)) rfl rfl (by kernel_rfl) (by kernel_rfl) (late_of (by kernel_rfl)) (by kernel_rfl) (by kernel_rfl) (fun _ _ _ h => h) HS.out (Or.inl ⟨by rfl, by (intro W hW; obtain ⟨e0, e1, e2⟩ := hW; go_simp)⟩) ?_
  simp only [Act.put, List.setIfInBounds_toArray, List.set_cons_succ, List.set_cons_zero]
  refine wpAnyY_one (i := 10) rfl (by kernel_rfl) (fun Kc hKc => ?_)
  refine step_fnD 91 rfl (by rfl) 92 _ _ rfl Tryz.f92 Tryz.func92 (by kernel_rfl) (by kernel_rfl) #[.pointer (some ⟨b, 0, none⟩), .int .i64 ((S.regs x).weight + 1)] (by simp [Act.eval]) (dheavy_calls _ HW3.out) ?_
  rintro e we ⟨rfl, hd⟩
  refine ⟨_, rfl, hKc.out _ _ (fun h => absurd h (by decide)) ?_⟩
  clear hKc Kc
  simp only [Act.put, List.setIfInBounds_toArray, List.set_cons_succ, List.set_cons_zero]
  refine wpAnyY_done (by kernel_rfl) ?_ _
  have HF : Hid (Dl w0 we b c s (weighP (setR S x (addB (S.regs x))) ((S.regs x).weight + 1)) wv gr gk gw R P) := hd
  clear hd HS HW3
  go_wp2
  go_end0
  exact ⟨rfl, _, by rw [HP.out]; exact HF.out⟩
set_option maxRecDepth 10000 in
set_option maxHeartbeats 1000000 in
theorem ddoes5 (x y z : Nat) (h : Dl w0 w b c s S wv gr gk gw R P) (hn : x < R) (hw0 : 0 ≤ (S.regs x).weight) (hw1 : (S.regs x).weight ≤ 1000) :
    Calls Tryz.prog 68 #[.pointer (some ⟨b, 0, none⟩), .agg #[.int .i64 5, .int .i64 x, .int .i64 y, .int .i64 z]] w fun e w' => e = .returned (.tuple #[]) ∧ ∃ wv', Dl w0 w' b c s (pastP S (5, x, y, z)) wv' gr gk gw R P := by
  have hlb := lt_block h.box
  have hlr := lt_block h.regs
  have k10 := h.cell 10 (v := .slice (some ⟨gr, 0, none⟩) R R) rfl
  have r6 := h.reg x 6 hn (by omega) (v := .int .i64 (S.regs x).weight) rfl
  have rf := h.rfz
  have HP : Hid (pastP S (5, x, y, z) = _) := past45 S 5 x y z (by decide)
  have HD : Hid (∀ o, Dl w0 ((w.setCell ⟨gr, x * 7 + 6, none⟩ (.int .i64 ((S.regs x).weight + 1))).alloc o).drew b c s (setR S x (addB (S.regs x))) wv gr gk gw R P) := fun o => ((h.add x hn).alloc o).drew
  clear h
  go_enter Tryz.func68, Tryz.ntmps68
  go_wp2_with fail
  go_region
  clear k10 r6 rf
  go_upto_region 15 with (fail)
  have HW := HD.out (.cells #[.int .i64 5, .int .i64 x, .int .i64 y, .int .i64 z] 65)
  have HB : Hid (((w.setCell ⟨gr, x * 7 + 6, none⟩ (.int .i64 ((S.regs x).weight + 1))).alloc (.cells #[.int .i64 5, .int .i64 x, .int .i64 y, .int .i64 z] 65)).drew.heap[w.heap.size]? = some (.cells #[.int .i64 5, .int .i64 x, .int .i64 y, .int .i64 z] 65 (0, 0))) := by
    have := heap_alloc_new (w.setCell ⟨gr, x * 7 + 6, none⟩ (.int .i64 ((S.regs x).weight + 1))) (.cells #[.int .i64 5, .int .i64 x, .int .i64 y, .int .i64 z] 65)
    rw [show (w.setCell ⟨gr, x * 7 + 6, none⟩ (.int .i64 ((S.regs x).weight + 1))).heap.size = w.heap.size by simp] at this
    exact this
  have HW2 : Hid _ := HW
  clear HD HW
  generalize ((w.setCell ⟨gr, x * 7 + 6, none⟩ (.int .i64 ((S.regs x).weight + 1))).alloc (.cells #[.int .i64 5, .int .i64 x, .int .i64 y, .int .i64 z] 65)).drew = wd at *
  generalize w.heap.size = gb at *
  have HS : Hid (wd.drew.cell? ⟨b, 10, none⟩ = some (.slice (some ⟨gr, 0, none⟩) R R) ∧ wd.drew.cell? ⟨gb, 1, none⟩ = some (.int .i64 x) ∧ wd.drew.cell? ⟨gr, x * 7 + 6, none⟩ = some (.int .i64 ((S.regs x).weight + 1))) :=
    ⟨HW2.out.cell 10 rfl, cell_block HB.out 1 _ rfl, HW2.out.reg x 6 hn (by omega) (by show rdCell (updR S.regs x (addB (S.regs x)) x) _ 6 = _; rw [updR_same]; rfl)⟩
  have HW3 : Hid (Dl w0 wd.drew b c s (setR S x (addB (S.regs x))) wv gr gk gw R P) := HW2.out.drew
  clear HW2 HB
  refine wp_region_Y (fun j => [10].contains j) (fun W : World => W.cell? ⟨b, 10, none⟩ = some (.slice (some ⟨gr, 0, none⟩) R R) ∧ W.cell? ⟨gb, 1, none⟩ = some (.int .i64 x) ∧ W.cell? ⟨gr, x * 7 + 6, none⟩ = some (.int .i64 ((S.regs x).weight + 1))) (by kernel_rfl) ?_
  refine wpAnyY_pure (i := 0) 81 (v := .pointer (some ⟨b, 0, none⟩)) rfl rfl (by kernel_rfl) (by kernel_rfl) (by kernel_rfl) (fun _ _ _ h => h) (Or.inl ⟨by rfl, by (intro W _; go_simp)⟩) ?_
  simp only [Act.put, List.setIfInBounds_toArray, List.set_cons_succ, List.set_cons_zero]
  refine wpAnyY_pure (i := 1) 82 (v := .pointer (some ⟨b, 0, none⟩)) rfl rfl (by kernel_rfl) (by kernel_rfl) (by kernel_rfl) (fun _ _ _ h => h) (Or.inl ⟨by rfl, by (intro W _; go_simp)⟩) ?_
  simp only [Act.put, List.setIfInBounds_toArray, List.set_cons_succ, List.set_cons_zero]
  refine wpAnyY_pure (i := 2) 83 (v := .pointer (some ⟨b, 0, none⟩)) rfl rfl (by kernel_rfl) (by kernel_rfl) (by kernel_rfl) (fun _ _ _ h => h) (Or.inl ⟨by rfl, by (intro W _; go_simp)⟩) ?_
  simp only [Act.put, List.setIfInBounds_toArray, List.set_cons_succ, List.set_cons_zero]
  refine wpAnyY_pure (i := 3) 84 (v := .pointer (some ⟨b, 10, none⟩)) rfl rfl (by kernel_rfl) (by kernel_rfl) (by kernel_rfl) (fun _ _ _ h => h) (Or.inl ⟨by rfl, by (intro W _; go_simp)⟩) ?_
  simp only [Act.put, List.setIfInBounds_toArray, List.set_cons_succ, List.set_cons_zero]
  refine wpAnyY_takeD (i := 4) 85 (v := .slice (some ⟨gr, 0, none⟩) R R) rfl rfl (by kernel_rfl) (by kernel_rfl) (late_of (by kernel_rfl)) (by kernel_rfl) (by kernel_rfl) (fun _ _ _ h => h) HS.out (Or.inl ⟨by rfl, by (intro W hW; obtain ⟨e0, e1, e2⟩ := hW; go_simp)⟩) ?_
  simp only [Act.put, List.setIfInBounds_toArray, List.set_cons_succ, List.set_cons_zero]
  refine wpAnyY_pure (i := 5) 86 (v := .pointer (some ⟨gb, 1, none⟩)) rfl rfl (by kernel_rfl) (by kernel_rfl) (by kernel_rfl) (fun _ _ _ h => h) (Or.inl ⟨by rfl, by (intro W _; go_simp)⟩) ?_
  simp only [Act.put, List.setIfInBounds_toArray, List.set_cons_succ, List.set_cons_zero]
  refine wpAnyY_takeD (i := 6) 87 (v := .int .i64 x) rfl rfl (by kernel_rfl) (by kernel_rfl) (late_of (by kernel_rfl)) (by kernel_rfl) (by kernel_rfl) (fun _ _ _ h => h) HS.out (Or.inl ⟨by rfl, by (intro W hW; obtain ⟨e0, e1, e2⟩ := hW; go_simp)⟩) ?_
  simp only [Act.put, List.setIfInBounds_toArray, List.set_cons_succ, List.set_cons_zero]
  refine wpAnyY_pure (i := 7) 88 (v := .pointer (some ⟨gr, x * 7, none⟩)) rfl rfl (by kernel_rfl) (by kernel_rfl) (by kernel_rfl) (fun _ _ _ h => h) (Or.inl ⟨by rfl, by (intro W _; go_simp)⟩) ?_
  simp only [Act.put, List.setIfInBounds_toArray, List.set_cons_succ, List.set_cons_zero]
  refine wpAnyY_pure (i := 8) 89 (v := .pointer (some ⟨gr, x * 7 + 6, none⟩)) rfl rfl (by kernel_rfl) (by kernel_rfl) (by kernel_rfl) (fun _ _ _ h => h) (Or.inl ⟨by rfl, by (intro W _; go_simp)⟩) ?_
  simp only [Act.put, List.setIfInBounds_toArray, List.set_cons_succ, List.set_cons_zero]
  refine wpAnyY_takeD (i := 9) 90 (v := .int .i64 ((S.regs x).weight + 1)) rfl rfl (by kernel_rfl) (by kernel_rfl) (late_of (by kernel_rfl)) (by kernel_rfl) (by kernel_rfl) (fun _ _ _ h => h) HS.out (Or.inl ⟨by rfl, by (intro W hW; obtain ⟨e0, e1, e2⟩ := hW; go_simp)⟩) ?_
  simp only [Act.put, List.setIfInBounds_toArray, List.set_cons_succ, List.set_cons_zero]
  refine wpAnyY_one (i := 10) rfl (by kernel_rfl) (fun Kc hKc => ?_)
  refine step_fnD 91 rfl (by rfl) 92 _ _ rfl Tryz.f92 Tryz.func92 (by kernel_rfl) (by kernel_rfl) #[.pointer (some ⟨b, 0, none⟩), .int .i64 ((S.regs x).weight + 1)] (by simp [Act.eval]) (dheavy_calls _ HW3.out) ?_
  rintro e we ⟨rfl, hd⟩
  refine ⟨_, rfl, hKc.out _ _ (fun h => absurd h (by decide)) ?_⟩
  clear hKc Kc
  simp only [Act.put, List.setIfInBounds_toArray, List.set_cons_succ, List.set_cons_zero]
  refine wpAnyY_done (by kernel_rfl) ?_ _
  have HF : Hid (Dl w0 we b c s (weighP (setR S x (addB (S.regs x))) ((S.regs x).weight + 1)) wv gr gk gw R P) := hd
  clear hd HS HW3
  go_wp2
  go_end0
  exact ⟨rfl, _, by rw [HP.out]; exact HF.out⟩
set_option maxRecDepth 10000 in
set_option maxHeartbeats 1000000 in
theorem ddoes8 (x y z : Nat) (h : Dl w0 w b c s S wv gr gk gw R P) (hn : x < P) (hw0 : 0 ≤ (S.pl x).2) (hw1 : (S.pl x).2 ≤ 1000) :
    Calls Tryz.prog 68 #[.pointer (some ⟨b, 0, none⟩), .agg #[.int .i64 8, .int .i64 x, .int .i64 y, .int .i64 z]] w fun e w' => e = .returned (.tuple #[]) ∧ ∃ wv', Dl w0 w' b c s (pastP S (8, x, y, z)) wv' gr gk gw R P := by
  have HP : Hid (pastP S (8, x, y, z) = _) := past8 S x y z
  have HW2 : Hid (Dl w0 (w.alloc (.cells #[.int .i64 8, .int .i64 x, .int .i64 y, .int .i64 z] 65)) b c s S wv gr gk gw R P) := h.alloc _
  have HB : Hid ((w.alloc (.cells #[.int .i64 8, .int .i64 x, .int .i64 y, .int .i64 z] 65)).heap[w.heap.size]? = some (.cells #[.int .i64 8, .int .i64 x, .int .i64 y, .int .i64 z] 65 (0, 0))) := heap_alloc_new _ _
  clear h
  go_enter Tryz.func68, Tryz.ntmps68
  go_upto_region 29 with (fail)
  generalize w.alloc (.cells #[.int .i64 8, .int .i64 x, .int .i64 y, .int .i64 z] 65) = wd at *
  generalize w.heap.size = gb at *
  generalize hpl : (S.pl x).2 = pw at *
  have HS : Hid (wd.drew.cell? ⟨b, 12, none⟩ = some (.slice (some ⟨gw, 0, none⟩) P P) ∧ wd.drew.cell? ⟨gb, 1, none⟩ = some (.int .i64 x) ∧ wd.drew.cell? ⟨gw, x, none⟩ = some (.int .i64 pw)) :=
    ⟨HW2.out.cell 12 rfl, cell_block HB.out 1 _ rfl, by rw [← hpl]; exact HW2.out.wg x hn⟩
  have HW3 : Hid (Dl w0 wd.drew b c s S wv gr gk gw R P) := HW2.out.drew
  clear HW2 HB hpl
  refine wp_region_Y (fun j => [10].contains j) (fun W : World => W.cell? ⟨b, 12, none⟩ = some (.slice (some ⟨gw, 0, none⟩) P P) ∧ W.cell? ⟨gb, 1, none⟩ = some (.int .i64 x) ∧ W.cell? ⟨gw, x, none⟩ = some (.int .i64 pw)) (by kernel_rfl) ?_
  refine wpAnyY_pure (i := 0) 189 (v := .pointer (some ⟨b, 0, none⟩)) rfl rfl (by kernel_rfl) (by kernel_rfl) (by kernel_rfl) (fun _ _ _ h => h) (Or.inl ⟨by rfl, by (intro W _; go_simp)⟩) ?_
  simp only [Act.put, List.setIfInBounds_toArray, List.set_cons_succ, List.set_cons_zero]
  refine wpAnyY_pure (i := 1) 190 (v := .pointer (some ⟨b, 0, none⟩)) rfl rfl (by kernel_rfl) (by kernel_rfl) (by kernel_rfl) (fun _ _ _ h => h) (Or.inl ⟨by rfl, by (intro W _; go_simp)⟩) ?_
  simp only [Act.put, List.setIfInBounds_toArray, List.set_cons_succ, List.set_cons_zero]
  refine wpAnyY_pure (i := 2) 191 (v := .pointer (some ⟨b, 0, none⟩)) rfl rfl (by kernel_rfl) (by kernel_rfl) (by kernel_rfl) (fun _ _ _ h => h) (Or.inl ⟨by rfl, by (intro W _; go_simp)⟩) ?_
  simp only [Act.put, List.setIfInBounds_toArray, List.set_cons_succ, List.set_cons_zero]
  refine wpAnyY_pure (i := 3) 192 (v := .pointer (some ⟨b, 12, none⟩)) rfl rfl (by kernel_rfl) (by kernel_rfl) (by kernel_rfl) (fun _ _ _ h => h) (Or.inl ⟨by rfl, by (intro W _; go_simp)⟩) ?_
  simp only [Act.put, List.setIfInBounds_toArray, List.set_cons_succ, List.set_cons_zero]
  refine wpAnyY_takeD (i := 4) 193 (v := .slice (some ⟨gw, 0, none⟩) P P) rfl rfl (by kernel_rfl) (by kernel_rfl) (late_of (by kernel_rfl)) (by kernel_rfl) (by kernel_rfl) (fun _ _ _ h => h) HS.out (Or.inl ⟨by rfl, by (intro W hW; obtain ⟨e0, e1, e2⟩ := hW; go_simp)⟩) ?_
  simp only [Act.put, List.setIfInBounds_toArray, List.set_cons_succ, List.set_cons_zero]
  refine wpAnyY_pure (i := 5) 194 (v := .pointer (some ⟨gb, 1, none⟩)) rfl rfl (by kernel_rfl) (by kernel_rfl) (by kernel_rfl) (fun _ _ _ h => h) (Or.inl ⟨by rfl, by (intro W _; go_simp)⟩) ?_
  simp only [Act.put, List.setIfInBounds_toArray, List.set_cons_succ, List.set_cons_zero]
  refine wpAnyY_takeD (i := 6) 195 (v := .int .i64 x) rfl rfl (by kernel_rfl) (by kernel_rfl) (late_of (by kernel_rfl)) (by kernel_rfl) (by kernel_rfl) (fun _ _ _ h => h) HS.out (Or.inl ⟨by rfl, by (intro W hW; obtain ⟨e0, e1, e2⟩ := hW; go_simp)⟩) ?_
  simp only [Act.put, List.setIfInBounds_toArray, List.set_cons_succ, List.set_cons_zero]
  refine wpAnyY_pure (i := 7) 196 (v := .pointer (some ⟨gw, x, none⟩)) rfl rfl (by kernel_rfl) (by kernel_rfl) (by kernel_rfl) (fun _ _ _ h => h) (Or.inl ⟨by rfl, by (intro W _; go_simp)⟩) ?_
  simp only [Act.put, List.setIfInBounds_toArray, List.set_cons_succ, List.set_cons_zero]
  refine wpAnyY_takeD (i := 8) 197 (v := .int .i64 pw) rfl rfl (by kernel_rfl) (by kernel_rfl) (late_of (by kernel_rfl)) (by kernel_rfl) (by kernel_rfl) (fun _ _ _ h => h) HS.out (Or.inl ⟨by rfl, by (intro W hW; obtain ⟨e0, e1, e2⟩ := hW; go_simp)⟩) ?_
  simp only [Act.put, List.setIfInBounds_toArray, List.set_cons_succ, List.set_cons_zero]
  refine wpAnyY_pure (i := 9) 198 (v := .int .i64 (pw + 1)) rfl rfl (by kernel_rfl) (by kernel_rfl) (by kernel_rfl) (fun _ _ _ h => h) (Or.inl ⟨by rfl, by (intro W _; go_simp; exact (IntWalk.i64_left _).trans (by unfold wrap64; omega))⟩) ?_
  simp only [Act.put, List.setIfInBounds_toArray, List.set_cons_succ, List.set_cons_zero]
  refine wpAnyY_one (i := 10) rfl (by kernel_rfl) (fun Kc hKc => ?_)
  refine step_fnD 199 rfl (by rfl) 92 _ _ rfl Tryz.f92 Tryz.func92 (by kernel_rfl) (by kernel_rfl) #[.pointer (some ⟨b, 0, none⟩), .int .i64 (pw + 1)] (by simp [Act.eval]) (dheavy_calls _ HW3.out) ?_
  rintro e we ⟨rfl, hd⟩
  refine ⟨_, rfl, hKc.out _ _ (fun h => absurd h (by decide)) ?_⟩
  clear hKc Kc
  simp only [Act.put, List.setIfInBounds_toArray, List.set_cons_succ, List.set_cons_zero]
  refine wpAnyY_done (by kernel_rfl) ?_ _
  have HF : Hid (Dl w0 we b c s (weighP S (pw + 1)) wv gr gk gw R P) := hd
  clear hd HS HW3
  go_wp2
  go_end0
  exact ⟨rfl, _, by rw [HP.out]; exact HF.out⟩
end
end Go.Proofs.YtnkfibahkmmnpaaGreat
