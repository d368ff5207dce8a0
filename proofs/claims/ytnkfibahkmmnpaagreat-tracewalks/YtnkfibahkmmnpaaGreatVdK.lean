/-
  The walk of the document's Check.
-/
import Derived.Test.YtnkfibahkmmnpaaGreatDrw
import Derived.Test.YtnkfibahkmmnpaaGreatKaa
import Derived.Test.YtnkfibahkmmnpaaGreatVdI
namespace Go.Proofs.YtnkfibahkmmnpaaGreat
open Go.RowKit

def nilV : Nat → Value := fun _ => .slice none 0 0
theorem made7 (R : Nat) : madeCells #[.bool false, .bool false, .int .i64 0, .int .i64 0, .int .i64 0, .slice none 0 0, .int .i64 0] (R * 7) = rgC (st0 0) nilV R := by
  apply Array.ext_getElem?
  intro j
  by_cases hj : j < R * 7
  · have e2 : (rgC (st0 0) nilV R)[j]? = some (rdCell rg0 (.slice none 0 0) (j % 7)) := by simp [rgC, hj, st0, nilV]
    rw [e2]
    have : j % 7 = 0 ∨ j % 7 = 1 ∨ j % 7 = 2 ∨ j % 7 = 3 ∨ j % 7 = 4 ∨ j % 7 = 5 ∨ j % 7 = 6 := by omega
    rcases this with e | e | e | e | e | e | e <;> simp [madeCells, hj, e, rdCell, rg0]
  · rw [Array.getElem?_eq_none (by simp [madeCells]; omega), Array.getElem?_eq_none (by simp [rgC]; omega)]
theorem made1b (P : Nat) : madeCells #[.bool false] P = kpC (st0 0) P := by
  apply Array.ext_getElem?
  intro j
  by_cases hj : j < P
  · rw [kpC_get _ _ hj]; simp [madeCells, hj, Nat.mod_one, st0]
  · rw [Array.getElem?_eq_none (by simp [madeCells]; omega), Array.getElem?_eq_none (by simp [kpC]; omega)]
theorem made1i (P : Nat) : madeCells #[.int .i64 0] P = wgC (st0 0) P := by
  apply Array.ext_getElem?
  intro j
  by_cases hj : j < P
  · rw [wgC_get _ _ hj]; simp [madeCells, hj, Nat.mod_one, st0]
  · rw [Array.getElem?_eq_none (by simp [madeCells]; omega), Array.getElem?_eq_none (by simp [wgC]; omega)]
theorem info80 : (Tryz.prog.info? 142).map (fun i => (i.zero, i.size, i.bytes)) = some (some (.agg #[.bool false, .bool false, .int .i64 0, .int .i64 0, .int .i64 0, .slice none 0 0, .int .i64 0]), 7, 64) := by kernel_rfl
theorem info4 : (Tryz.prog.info? 4).map (fun i => (i.zero, i.size, i.bytes)) = some (some (.bool false), 1, 1) := by kernel_rfl
theorem make_regs (R : Nat) (hR : R ≤ 16) (W : World) : (Instr.makeSlice 97 (.int .i64 R) (.int .i64 R)).run Tryz.prog W = .ok (.slice (some ⟨W.heap.size, 0, none⟩) R R) (W.alloc (.cells (rgC (st0 0) nilV R) 142)) := by
  obtain ⟨i, hi, hz, hs, hb⟩ := info_parts info80
  have := run_make (P := Tryz.prog) W 97 142 i _ Tryz.underlying97 hi hz .i64 .i64 R R (by omega) (by omega) (by rw [hb]; omega) (by omega)
  rw [this, hs, Int.toNat_natCast, ← made7]; rfl
theorem make_kept (R : Nat) (hR : R ≤ 10) (W : World) : (Instr.makeSlice 59 (.int .i64 R) (.int .i64 R)).run Tryz.prog W = .ok (.slice (some ⟨W.heap.size, 0, none⟩) R R) (W.alloc (.cells (kpC (st0 0) R) 4)) := by
  obtain ⟨i, hi, hz, hs, hb⟩ := info_parts info4
  have := run_make (P := Tryz.prog) W 59 4 i _ Tryz.underlying59 hi hz .i64 .i64 R R (by omega) (by omega) (by rw [hb]; omega) (by omega)
  rw [this, hs, Int.toNat_natCast, Nat.mul_one, ← made1b]; rfl
theorem make_wgt (R : Nat) (hR : R ≤ 10) (W : World) : (Instr.makeSlice 22 (.int .i64 R) (.int .i64 R)).run Tryz.prog W = .ok (.slice (some ⟨W.heap.size, 0, none⟩) R R) (W.alloc (.cells (wgC (st0 0) R) 3)) := by
  obtain ⟨i, hi, hz, hs, hb⟩ := info_parts info3
  have := run_make (P := Tryz.prog) W 22 3 i _ Tryz.underlying22 hi hz .i64 .i64 R R (by omega) (by omega) (by rw [hb]; omega) (by omega)
  rw [this, hs, Int.toNat_natCast, Nat.mul_one, ← made1i]; rfl
theorem four_at (W : World) (o1 o2 o3 o4 : Obj) : ((((W.alloc o1).alloc o2).alloc o3).alloc o4).heap[W.heap.size]? = some o1 ∧ ((((W.alloc o1).alloc o2).alloc o3).alloc o4).heap[W.heap.size + 1]? = some o2 ∧ ((((W.alloc o1).alloc o2).alloc o3).alloc o4).heap[W.heap.size + 1 + 1]? = some o3 ∧ ((((W.alloc o1).alloc o2).alloc o3).alloc o4).heap[W.heap.size + 1 + 1 + 1]? = some o4 ∧ Below W.heap.size W ((((W.alloc o1).alloc o2).alloc o3).alloc o4) := by
  have key : ∀ {W : World} {b : Nat} {o : Obj}, W.heap.size = b → (W.alloc o).heap[b]? = some o := fun h => by rw [← h]; exact heap_alloc_new _ _
  refine ⟨?_, ?_, ?_, key (by simp), (((below_new _).alloc (by simp) _).alloc (by simp; omega) _).alloc (by simp; omega) _⟩
  · rw [(below_new _).block _ (by simp; omega), (below_new _).block _ (by simp; omega), (below_new _).block _ (by simp)]; first | exact key rfl | exact key (by simp)
  · rw [(below_new _).block _ (by simp), (below_new _).block _ (by simp)]; exact key (by simp)
  · rw [(below_new _).block _ (by simp)]; exact key (by simp)
section
variable {P : Program} {ops : Array Oper} {Q : Exit → Act → World → Prop} {md : Region.Mode} {S : World → Prop} {x : Nat → Bool}
/-- Three operations may come up. -/
theorem wpAnyY_three {i j k : Nat} {oi oj ok : Oper} {fuel : Nat} {listed : Array Bool} {a : Act} {w : World} (hi : ops[i]? = some oi) (hj : ops[j]? = some oj) (hk : ops[k]? = some ok) (hr : Region.ready md ops listed = [i, j, k])
    (h1 : ∀ K' : Act → World → Prop, Shut (∀ a w', (x i = false → S w → S w') → wpAnyY P md ops Q S x fuel (listed.setIfInBounds i true) a w' → K' a w') → if Region.wanted oi (yielded ops a.tmps) = true then Oper.wp P oi a w K' Q else K' (a.put oi.dst undef) w)
    (h2 : ∀ K' : Act → World → Prop, Shut (∀ a w', (x j = false → S w → S w') → wpAnyY P md ops Q S x fuel (listed.setIfInBounds j true) a w' → K' a w') → if Region.wanted oj (yielded ops a.tmps) = true then Oper.wp P oj a w K' Q else K' (a.put oj.dst undef) w)
    (h3 : ∀ K' : Act → World → Prop, Shut (∀ a w', (x k = false → S w → S w') → wpAnyY P md ops Q S x fuel (listed.setIfInBounds k true) a w' → K' a w') → if Region.wanted ok (yielded ops a.tmps) = true then Oper.wp P ok a w K' Q else K' (a.put ok.dst undef) w) :
    wpAnyY P md ops Q S x (fuel + 1) listed a w := by
  refine ⟨fun h0 => absurd (hr.symm.trans h0) (by simp), fun m hm => ?_⟩
  rw [hr] at hm
  rcases List.mem_cons.1 hm with rfl | hm
  · exact wpOp_step hi (fun K' hK => h1 K' (fun a w hS hW => hK a w ⟨hS, hW⟩))
  rcases List.mem_cons.1 hm with rfl | hm
  · exact wpOp_step hj (fun K' hK => h2 K' (fun a w hS hW => hK a w ⟨hS, hW⟩))
  · obtain rfl := List.mem_singleton.1 hm
    exact wpOp_step hk (fun K' hK => h3 K' (fun a w hS hW => hK a w ⟨hS, hW⟩))
end
theorem below_drew1 {W V : World} (h : Below W.drew.heap.size W.drew V) : Below W.heap.size W V := (below_drewN (Below.refl _ W) 1).trans h
theorem wid_gt (c : Cd) (t : Int) (h : 0 ≤ mostB c t) : widB c t = decide (mostB c t < gtB (c.table ++ c.consts)) := by
  have h1 := gtB_le (l := c.table ++ c.consts) h
  have h2 : allB (-mostB c t) (mostB c t) (c.table ++ c.consts) = (allB (-mostB c t) (mostB c t) c.table && allB (-mostB c t) (mostB c t) c.consts) := by simp [allB, List.all_append]
  rw [h2] at h1
  unfold widB
  rw [← Bool.not_and]
  cases hx : (allB (-mostB c t) (mostB c t) c.table && allB (-mostB c t) (mostB c t) c.consts) with
  | true => rw [hx] at h1; have := h1.2 rfl; simp; omega
  | false => rw [hx] at h1; simp; rcases Int.lt_or_le (mostB c t) (gtB (c.table ++ c.consts)) with h3 | h3
             · exact h3
             · exact absurd (h1.1 h3) (by decide)
theorem tab_few {c : Cd} (h : rightB c = true) : c.table.length ≤ 400 := by
  have hr := rt_of h
  have h2 : (c.table.length : Int) = c.letters * c.letters := by
    simp only [rightB, listsB, Bool.and_eq_true, decide_eq_true_eq] at h
    exact h.1.1.2.1.1.1
  have h0 : 0 ≤ c.letters := by have := hr.letters.1; omega
  have : c.letters * c.letters ≤ 20 * 20 := Int.mul_le_mul hr.letters.2 hr.letters.2 h0 (by omega)
  omega
theorem dl_start {w0 W : World} {b gr gk gw R P : Nat} {c : Cd} {s : Ls} (h1 : W.heap[b]? = some (.cells (dlCells c s 0 gr gk gw R P) 99 (0, 0))) (h2 : W.heap[gr]? = some (.cells (rgC (st0 0) nilV R) 142 (0, 0))) (h3 : W.heap[gk]? = some (.cells (kpC (st0 0) P) 4 (0, 0))) (h4 : W.heap[gw]? = some (.cells (wgC (st0 0) P) 3 (0, 0)))
    (hc : CdAt w0 c s) (hl : Below w0.heap.size w0 W) (hle : w0.heap.size ≤ b ∧ w0.heap.size ≤ gr ∧ w0.heap.size ≤ gk ∧ w0.heap.size ≤ gw) : Dl w0 W b c s (st0 0) nilV gr gk gw R P :=
  ⟨h1, h2, h3, h4, hc, hl, hle, fun _ _ => own_nil _ _ _, fun _ _ _ _ _ => .inl rfl⟩
set_option maxRecDepth 10000 in
set_option maxHeartbeats 2000000 in
theorem dcheck_calls (c : Cd) (s : Ls) (w : World) (h : CdAt w c s) :
    Calls Tryz.prog 15 #[.agg (cdCells c s)] w fun e w' => e = .returned (.tuple #[.int .i64 (chkB c).1, .int .i64 (chkB c).2]) ∧ Below w.heap.size w w' := by
  have HC : Hid (CdAt w c s) := h
  have hm := h.cell.short
  unfold maxLen at hm
  clear h
  obtain ⟨r1, h1⟩ : ∃ r, rightB c = r := ⟨_, rfl⟩
  have H1 : Hid (rightB c = r1) := h1
  clear h1
  rw [show cdCells c s = #[.int .i64 c.letters, .int .i64 c.planes, .int .i64 c.regs, .int .i64 c.lo, .int .i64 c.hi, .int .i64 c.most, .slice s.t.a s.t.n s.t.c, .slice s.k.a s.k.n s.k.c, .slice s.i.a s.i.n s.i.c, .slice s.r.a s.r.n s.r.c] from rfl]
  go_enter Tryz.func15, Tryz.ntmps15
  go_wp2_with fail
  refine (rightR_calls c s _ (HC.out.below (below_new _))).mono ?_
  rintro e w1 ⟨rfl, hb⟩
  rw [H1.out]
  have HX : Hid (Bx w (cdCells c s) w1) := (Bx.start w _).next hb
  clear hb
  cases r1
  · go_wp2
    go_ret2
    exact ⟨tup2 (chk0 H1.out), HX.out.low⟩
  have HR : Hid (Rt c) := rt_of H1.out
  obtain ⟨r2, h2⟩ : ∃ r, arsB c = r := ⟨_, rfl⟩
  have H2 : Hid (arsB c = r2) := h2
  clear h2
  have c0 := HX.out.cell 0 (.int .i64 c.letters) rfl
  have c1 := HX.out.cell 1 (.int .i64 c.planes) rfl
  have c2 := HX.out.cell 2 (.int .i64 c.regs) rfl
  have c3 := HX.out.cell 3 (.int .i64 c.lo) rfl
  have c4 := HX.out.cell 4 (.int .i64 c.hi) rfl
  have c5 := HX.out.cell 5 (.int .i64 c.most) rfl
  have c6 := HX.out.cell 6 (.slice s.t.a s.t.n s.t.c) rfl
  have c7 := HX.out.cell 7 (.slice s.k.a s.k.n s.k.c) rfl
  have c8 := HX.out.cell 8 (.slice s.i.a s.i.n s.i.c) rfl
  have c9 := HX.out.cell 9 (.slice s.r.a s.r.n s.r.c) rfl
  go_wp2_with fail
  refine (darrows_calls c s _ (HC.out.below HX.out.low)).mono ?_
  rintro e w2 ⟨rfl, hb⟩
  rw [H2.out]
  have HX2 : Hid (Bx w (cdCells c s) w2) := HX.out.next hb
  clear hb HX
  clear c0 c1 c2 c3 c4 c5 c6 c7 c8 c9
  cases r2
  · go_wp2
    go_ret2
    exact ⟨tup2 (chk1 H1.out H2.out), HX2.out.low⟩
  have c0 := HX2.out.cell 0 (.int .i64 c.letters) rfl
  have c1 := HX2.out.cell 1 (.int .i64 c.planes) rfl
  have c2 := HX2.out.cell 2 (.int .i64 c.regs) rfl
  have c3 := HX2.out.cell 3 (.int .i64 c.lo) rfl
  have c4 := HX2.out.cell 4 (.int .i64 c.hi) rfl
  have c5 := HX2.out.cell 5 (.int .i64 c.most) rfl
  have c6 := HX2.out.cell 6 (.slice s.t.a s.t.n s.t.c) rfl
  have c7 := HX2.out.cell 7 (.slice s.k.a s.k.n s.k.c) rfl
  have c8 := HX2.out.cell 8 (.slice s.i.a s.i.n s.i.c) rfl
  have c9 := HX2.out.cell 9 (.slice s.r.a s.r.n s.r.c) rfl
  obtain ⟨R, hR⟩ : ∃ R : Nat, c.regs = R := ⟨c.regs.toNat, by have := HR.out.regs; omega⟩
  obtain ⟨P, hP⟩ : ∃ P : Nat, c.planes = P := ⟨c.planes.toNat, by have := HR.out.planes; omega⟩
  have hR16 : R ≤ 16 := by have := HR.out.regs; omega
  have hP10 : P ≤ 10 := by have := HR.out.planes; omega
  have HRP : Hid (c.regs = R ∧ c.planes = P) := ⟨hR, hP⟩
  have m1 := make_regs R hR16
  have m2 := make_kept P hP10
  have m3 := make_wgt P hP10
  generalize hZ1 : rgC (st0 0) nilV R = Z1 at m1
  generalize hZ2 : kpC (st0 0) P = Z2 at m2
  generalize hZ3 : wgC (st0 0) P = Z3 at m3
  have HZ : Hid (rgC (st0 0) nilV R = Z1 ∧ kpC (st0 0) P = Z2 ∧ wgC (st0 0) P = Z3) := ⟨hZ1, hZ2, hZ3⟩
  clear hZ1 hZ2 hZ3
  rw [hR] at c2
  rw [hP] at c1
  have HSz : Hid (w.heap.size < w2.heap.size) := HX2.out.size
  have hsz : w.heap.size < w2.heap.size := HX2.out.size
  go_upto_region 7 with (fail)
  clear hR hP
  go_cut [5] (fun v5 wc => ∃ b gr gk gw, v5 = .pointer (some ⟨b, 0, none⟩) ∧ Dl w2 wc b c s (st0 0) nilV gr gk gw R P)
  case first =>
    have HS : Hid (w2.drew.cell? ⟨w.heap.size, 0, none⟩ = some (.int .i64 c.letters) ∧ w2.drew.cell? ⟨w.heap.size, 1, none⟩ = some (.int .i64 P) ∧ w2.drew.cell? ⟨w.heap.size, 2, none⟩ = some (.int .i64 R) ∧ w2.drew.cell? ⟨w.heap.size, 3, none⟩ = some (.int .i64 c.lo) ∧ w2.drew.cell? ⟨w.heap.size, 4, none⟩ = some (.int .i64 c.hi) ∧ w2.drew.cell? ⟨w.heap.size, 5, none⟩ = some (.int .i64 c.most) ∧ w2.drew.cell? ⟨w.heap.size, 6, none⟩ = some (.slice s.t.a s.t.n s.t.c) ∧ w2.drew.cell? ⟨w.heap.size, 7, none⟩ = some (.slice s.k.a s.k.n s.k.c) ∧ w2.drew.cell? ⟨w.heap.size, 8, none⟩ = some (.slice s.i.a s.i.n s.i.c) ∧ w2.drew.cell? ⟨w.heap.size, 9, none⟩ = some (.slice s.r.a s.r.n s.r.c)) := ⟨c0, c1, c2, c3, c4, c5, c6, c7, c8, c9⟩
    clear c0 c1 c2 c3 c4 c5 c6 c7 c8 c9
    refine wp_region_Y (fun j => [].contains j) (fun W : World => W.cell? ⟨w.heap.size, 0, none⟩ = some (.int .i64 c.letters) ∧ W.cell? ⟨w.heap.size, 1, none⟩ = some (.int .i64 P) ∧ W.cell? ⟨w.heap.size, 2, none⟩ = some (.int .i64 R) ∧ W.cell? ⟨w.heap.size, 3, none⟩ = some (.int .i64 c.lo) ∧ W.cell? ⟨w.heap.size, 4, none⟩ = some (.int .i64 c.hi) ∧ W.cell? ⟨w.heap.size, 5, none⟩ = some (.int .i64 c.most) ∧ W.cell? ⟨w.heap.size, 6, none⟩ = some (.slice s.t.a s.t.n s.t.c) ∧ W.cell? ⟨w.heap.size, 7, none⟩ = some (.slice s.k.a s.k.n s.k.c) ∧ W.cell? ⟨w.heap.size, 8, none⟩ = some (.slice s.i.a s.i.n s.i.c) ∧ W.cell? ⟨w.heap.size, 9, none⟩ = some (.slice s.r.a s.r.n s.r.c)) (by kernel_rfl) ?_
    refine wpAnyY_takeD (i := 0) 18 (v := .agg #[.int .i64 c.letters, .int .i64 P, .int .i64 R, .int .i64 c.lo, .int .i64 c.hi, .int .i64 c.most, .slice s.t.a s.t.n s.t.c, .slice s.k.a s.k.n s.k.c, .slice s.i.a s.i.n s.i.c, .slice s.r.a s.r.n s.r.c]) rfl rfl (by kernel_rfl) (by kernel_rfl) (late_of (by kernel_rfl)) (by kernel_rfl) (by kernel_rfl) (fun _ _ _ h => h) HS.out (Or.inl ⟨by rfl, by (intro W hW; obtain ⟨e0, e1, e2, e3, e4, e5, e6, e7, e8, e9⟩ := hW; go_simp)⟩) ?_
    simp only [Act.put, List.setIfInBounds_toArray, List.set_cons_succ, List.set_cons_zero]
    refine wpAnyY_pure (i := 1) 19 (v := .pointer (some ⟨w.heap.size, 2, none⟩)) rfl rfl (by kernel_rfl) (by kernel_rfl) (by kernel_rfl) (fun _ _ _ h => h) (Or.inl ⟨by rfl, by (intro W _; go_simp)⟩) ?_
    simp only [Act.put, List.setIfInBounds_toArray, List.set_cons_succ, List.set_cons_zero]
    refine wpAnyY_takeD (i := 2) 20 (v := .int .i64 R) rfl rfl (by kernel_rfl) (by kernel_rfl) (late_of (by kernel_rfl)) (by kernel_rfl) (by kernel_rfl) (fun _ _ _ h => h) HS.out (Or.inl ⟨by rfl, by (intro W hW; obtain ⟨e0, e1, e2, e3, e4, e5, e6, e7, e8, e9⟩ := hW; go_simp)⟩) ?_
    simp only [Act.put, List.setIfInBounds_toArray, List.set_cons_succ, List.set_cons_zero]
    refine wpAnyY_pure (i := 4) 22 (v := .pointer (some ⟨w.heap.size, 1, none⟩)) rfl rfl (by kernel_rfl) (by kernel_rfl) (by kernel_rfl) (fun _ _ _ h => h) (Or.inl ⟨by rfl, by (intro W _; go_simp)⟩) ?_
    simp only [Act.put, List.setIfInBounds_toArray, List.set_cons_succ, List.set_cons_zero]
    refine wpAnyY_takeD (i := 5) 23 (v := .int .i64 P) rfl rfl (by kernel_rfl) (by kernel_rfl) (late_of (by kernel_rfl)) (by kernel_rfl) (by kernel_rfl) (fun _ _ _ h => h) HS.out (Or.inl ⟨by rfl, by (intro W hW; obtain ⟨e0, e1, e2, e3, e4, e5, e6, e7, e8, e9⟩ := hW; go_simp)⟩) ?_
    simp only [Act.put, List.setIfInBounds_toArray, List.set_cons_succ, List.set_cons_zero]
    refine wpAnyY_pure (i := 7) 25 (v := .pointer (some ⟨w.heap.size, 1, none⟩)) rfl rfl (by kernel_rfl) (by kernel_rfl) (by kernel_rfl) (fun _ _ _ h => h) (Or.inl ⟨by rfl, by (intro W _; go_simp)⟩) ?_
    simp only [Act.put, List.setIfInBounds_toArray, List.set_cons_succ, List.set_cons_zero]
    refine wpAnyY_takeD (i := 8) 26 (v := .int .i64 P) rfl rfl (by kernel_rfl) (by kernel_rfl) (late_of (by kernel_rfl)) (by kernel_rfl) (by kernel_rfl) (fun _ _ _ h => h) HS.out (Or.inl ⟨by rfl, by (intro W hW; obtain ⟨e0, e1, e2, e3, e4, e5, e6, e7, e8, e9⟩ := hW; go_simp)⟩) ?_
    simp only [Act.put, List.setIfInBounds_toArray, List.set_cons_succ, List.set_cons_zero]
    refine wpAnyY_three (i := 3) (j := 6) (k := 9) rfl rfl rfl (by kernel_rfl) (fun Kc hKc => ?_) (fun Kc hKc => ?_) (fun Kc hKc => ?_)
    · go_simp
      refine hKc.out _ _ (fun _ h => ⟨cell_al h.1 _, cell_al h.2.1 _, cell_al h.2.2.1 _, cell_al h.2.2.2.1 _, cell_al h.2.2.2.2.1 _, cell_al h.2.2.2.2.2.1 _, cell_al h.2.2.2.2.2.2.1 _, cell_al h.2.2.2.2.2.2.2.1 _, cell_al h.2.2.2.2.2.2.2.2.1 _, cell_al h.2.2.2.2.2.2.2.2.2 _⟩) ?_
      clear hKc Kc
      refine wpAnyY_two (i := 6) (j := 9) rfl rfl (by kernel_rfl) (fun Kc hKc => ?_) (fun Kc hKc => ?_)
      · go_simp
        refine hKc.out _ _ (fun _ h => ⟨cell_al h.1 _, cell_al h.2.1 _, cell_al h.2.2.1 _, cell_al h.2.2.2.1 _, cell_al h.2.2.2.2.1 _, cell_al h.2.2.2.2.2.1 _, cell_al h.2.2.2.2.2.2.1 _, cell_al h.2.2.2.2.2.2.2.1 _, cell_al h.2.2.2.2.2.2.2.2.1 _, cell_al h.2.2.2.2.2.2.2.2.2 _⟩) ?_
        clear hKc Kc
        refine wpAnyY_one (i := 9) rfl (by kernel_rfl) (fun Kc hKc => ?_)
        go_simp
        refine hKc.out _ _ (fun _ h => ⟨cell_al h.1 _, cell_al h.2.1 _, cell_al h.2.2.1 _, cell_al h.2.2.2.1 _, cell_al h.2.2.2.2.1 _, cell_al h.2.2.2.2.2.1 _, cell_al h.2.2.2.2.2.2.1 _, cell_al h.2.2.2.2.2.2.2.1 _, cell_al h.2.2.2.2.2.2.2.2.1 _, cell_al h.2.2.2.2.2.2.2.2.2 _⟩) ?_
        clear hKc Kc
        refine wpAnyY_one (i := 10) rfl (by kernel_rfl) (fun Kc hKc => ?_)
        go_simp
        refine hKc.out _ _ (fun _ h => h) ?_
        clear hKc Kc
        refine wpAnyY_one (i := 11) rfl (by kernel_rfl) (fun Kc hKc => ?_)
        go_simp
        refine hKc.out _ _ (fun _ h => ⟨cell_al h.1 _, cell_al h.2.1 _, cell_al h.2.2.1 _, cell_al h.2.2.2.1 _, cell_al h.2.2.2.2.1 _, cell_al h.2.2.2.2.2.1 _, cell_al h.2.2.2.2.2.2.1 _, cell_al h.2.2.2.2.2.2.2.1 _, cell_al h.2.2.2.2.2.2.2.2.1 _, cell_al h.2.2.2.2.2.2.2.2.2 _⟩) ?_
        clear hKc Kc
        refine wpAnyY_one (i := 12) rfl (by kernel_rfl) (fun Kc hKc => ?_)
        go_simp
        refine hKc.out _ _ (fun _ h => h) ?_
        clear hKc Kc
        refine wpAnyY_done (by kernel_rfl) ?_ _
        obtain ⟨f0, f1, f2, f3, fb⟩ := four_at w2 (.cells Z1 142) (.cells Z2 4) (.cells Z3 3) (.cells #[.int .i64 c.letters, .int .i64 P, .int .i64 R, .int .i64 c.lo, .int .i64 c.hi, .int .i64 c.most, .slice s.t.a s.t.n s.t.c, .slice s.k.a s.k.n s.k.c, .slice s.i.a s.i.n s.i.c, .slice s.r.a s.r.n s.r.c, .slice (some ⟨w2.heap.size, 0, none⟩) R R, .slice (some ⟨w2.heap.size + 1, 0, none⟩) P P, .slice (some ⟨w2.heap.size + 1 + 1, 0, none⟩) P P, .int .i64 1] 99)
        have HF : Hid (Dl w2 (((((w2.alloc (.cells Z1 142)).alloc (.cells Z2 4)).alloc (.cells Z3 3)).alloc (.cells #[.int .i64 c.letters, .int .i64 P, .int .i64 R, .int .i64 c.lo, .int .i64 c.hi, .int .i64 c.most, .slice s.t.a s.t.n s.t.c, .slice s.k.a s.k.n s.k.c, .slice s.i.a s.i.n s.i.c, .slice s.r.a s.r.n s.r.c, .slice (some ⟨w2.heap.size, 0, none⟩) R R, .slice (some ⟨w2.heap.size + 1, 0, none⟩) P P, .slice (some ⟨w2.heap.size + 1 + 1, 0, none⟩) P P, .int .i64 1] 99)).drew) (w2.heap.size + 1 + 1 + 1) c s (st0 0) nilV (w2.heap.size) (w2.heap.size + 1) (w2.heap.size + 1 + 1) R P) := (dl_start (by rw [f3]; unfold dlCells; rw [HRP.out.1, HRP.out.2]; rfl) (by rw [HZ.out.1]; exact f0) (by rw [HZ.out.2.1]; exact f1) (by rw [HZ.out.2.2]; exact f2) (HC.out.below HX2.out.low) fb ⟨by omega, by omega, by omega, by omega⟩).drew
        clear f0 f1 f2 f3 fb HS
        go_wp2
        go_meet
        exact ⟨_, _, _, _, rfl, HF.out⟩
      · go_simp
        refine hKc.out _ _ (fun _ h => ⟨cell_al h.1 _, cell_al h.2.1 _, cell_al h.2.2.1 _, cell_al h.2.2.2.1 _, cell_al h.2.2.2.2.1 _, cell_al h.2.2.2.2.2.1 _, cell_al h.2.2.2.2.2.2.1 _, cell_al h.2.2.2.2.2.2.2.1 _, cell_al h.2.2.2.2.2.2.2.2.1 _, cell_al h.2.2.2.2.2.2.2.2.2 _⟩) ?_
        clear hKc Kc
        refine wpAnyY_one (i := 6) rfl (by kernel_rfl) (fun Kc hKc => ?_)
        go_simp
        refine hKc.out _ _ (fun _ h => ⟨cell_al h.1 _, cell_al h.2.1 _, cell_al h.2.2.1 _, cell_al h.2.2.2.1 _, cell_al h.2.2.2.2.1 _, cell_al h.2.2.2.2.2.1 _, cell_al h.2.2.2.2.2.2.1 _, cell_al h.2.2.2.2.2.2.2.1 _, cell_al h.2.2.2.2.2.2.2.2.1 _, cell_al h.2.2.2.2.2.2.2.2.2 _⟩) ?_
        clear hKc Kc
        refine wpAnyY_one (i := 10) rfl (by kernel_rfl) (fun Kc hKc => ?_)
        go_simp
        refine hKc.out _ _ (fun _ h => h) ?_
        clear hKc Kc
        refine wpAnyY_one (i := 11) rfl (by kernel_rfl) (fun Kc hKc => ?_)
        go_simp
        refine hKc.out _ _ (fun _ h => ⟨cell_al h.1 _, cell_al h.2.1 _, cell_al h.2.2.1 _, cell_al h.2.2.2.1 _, cell_al h.2.2.2.2.1 _, cell_al h.2.2.2.2.2.1 _, cell_al h.2.2.2.2.2.2.1 _, cell_al h.2.2.2.2.2.2.2.1 _, cell_al h.2.2.2.2.2.2.2.2.1 _, cell_al h.2.2.2.2.2.2.2.2.2 _⟩) ?_
        clear hKc Kc
        refine wpAnyY_one (i := 12) rfl (by kernel_rfl) (fun Kc hKc => ?_)
        go_simp
        refine hKc.out _ _ (fun _ h => h) ?_
        clear hKc Kc
        refine wpAnyY_done (by kernel_rfl) ?_ _
        obtain ⟨f0, f1, f2, f3, fb⟩ := four_at w2 (.cells Z1 142) (.cells Z3 3) (.cells Z2 4) (.cells #[.int .i64 c.letters, .int .i64 P, .int .i64 R, .int .i64 c.lo, .int .i64 c.hi, .int .i64 c.most, .slice s.t.a s.t.n s.t.c, .slice s.k.a s.k.n s.k.c, .slice s.i.a s.i.n s.i.c, .slice s.r.a s.r.n s.r.c, .slice (some ⟨w2.heap.size, 0, none⟩) R R, .slice (some ⟨w2.heap.size + 1 + 1, 0, none⟩) P P, .slice (some ⟨w2.heap.size + 1, 0, none⟩) P P, .int .i64 1] 99)
        have HF : Hid (Dl w2 (((((w2.alloc (.cells Z1 142)).alloc (.cells Z3 3)).alloc (.cells Z2 4)).alloc (.cells #[.int .i64 c.letters, .int .i64 P, .int .i64 R, .int .i64 c.lo, .int .i64 c.hi, .int .i64 c.most, .slice s.t.a s.t.n s.t.c, .slice s.k.a s.k.n s.k.c, .slice s.i.a s.i.n s.i.c, .slice s.r.a s.r.n s.r.c, .slice (some ⟨w2.heap.size, 0, none⟩) R R, .slice (some ⟨w2.heap.size + 1 + 1, 0, none⟩) P P, .slice (some ⟨w2.heap.size + 1, 0, none⟩) P P, .int .i64 1] 99)).drew) (w2.heap.size + 1 + 1 + 1) c s (st0 0) nilV (w2.heap.size) (w2.heap.size + 1 + 1) (w2.heap.size + 1) R P) := (dl_start (by rw [f3]; unfold dlCells; rw [HRP.out.1, HRP.out.2]; rfl) (by rw [HZ.out.1]; exact f0) (by rw [HZ.out.2.1]; exact f2) (by rw [HZ.out.2.2]; exact f1) (HC.out.below HX2.out.low) fb ⟨by omega, by omega, by omega, by omega⟩).drew
        clear f0 f1 f2 f3 fb HS
        go_wp2
        go_meet
        exact ⟨_, _, _, _, rfl, HF.out⟩
    · go_simp
      refine hKc.out _ _ (fun _ h => ⟨cell_al h.1 _, cell_al h.2.1 _, cell_al h.2.2.1 _, cell_al h.2.2.2.1 _, cell_al h.2.2.2.2.1 _, cell_al h.2.2.2.2.2.1 _, cell_al h.2.2.2.2.2.2.1 _, cell_al h.2.2.2.2.2.2.2.1 _, cell_al h.2.2.2.2.2.2.2.2.1 _, cell_al h.2.2.2.2.2.2.2.2.2 _⟩) ?_
      clear hKc Kc
      refine wpAnyY_two (i := 3) (j := 9) rfl rfl (by kernel_rfl) (fun Kc hKc => ?_) (fun Kc hKc => ?_)
      · go_simp
        refine hKc.out _ _ (fun _ h => ⟨cell_al h.1 _, cell_al h.2.1 _, cell_al h.2.2.1 _, cell_al h.2.2.2.1 _, cell_al h.2.2.2.2.1 _, cell_al h.2.2.2.2.2.1 _, cell_al h.2.2.2.2.2.2.1 _, cell_al h.2.2.2.2.2.2.2.1 _, cell_al h.2.2.2.2.2.2.2.2.1 _, cell_al h.2.2.2.2.2.2.2.2.2 _⟩) ?_
        clear hKc Kc
        refine wpAnyY_one (i := 9) rfl (by kernel_rfl) (fun Kc hKc => ?_)
        go_simp
        refine hKc.out _ _ (fun _ h => ⟨cell_al h.1 _, cell_al h.2.1 _, cell_al h.2.2.1 _, cell_al h.2.2.2.1 _, cell_al h.2.2.2.2.1 _, cell_al h.2.2.2.2.2.1 _, cell_al h.2.2.2.2.2.2.1 _, cell_al h.2.2.2.2.2.2.2.1 _, cell_al h.2.2.2.2.2.2.2.2.1 _, cell_al h.2.2.2.2.2.2.2.2.2 _⟩) ?_
        clear hKc Kc
        refine wpAnyY_one (i := 10) rfl (by kernel_rfl) (fun Kc hKc => ?_)
        go_simp
        refine hKc.out _ _ (fun _ h => h) ?_
        clear hKc Kc
        refine wpAnyY_one (i := 11) rfl (by kernel_rfl) (fun Kc hKc => ?_)
        go_simp
        refine hKc.out _ _ (fun _ h => ⟨cell_al h.1 _, cell_al h.2.1 _, cell_al h.2.2.1 _, cell_al h.2.2.2.1 _, cell_al h.2.2.2.2.1 _, cell_al h.2.2.2.2.2.1 _, cell_al h.2.2.2.2.2.2.1 _, cell_al h.2.2.2.2.2.2.2.1 _, cell_al h.2.2.2.2.2.2.2.2.1 _, cell_al h.2.2.2.2.2.2.2.2.2 _⟩) ?_
        clear hKc Kc
        refine wpAnyY_one (i := 12) rfl (by kernel_rfl) (fun Kc hKc => ?_)
        go_simp
        refine hKc.out _ _ (fun _ h => h) ?_
        clear hKc Kc
        refine wpAnyY_done (by kernel_rfl) ?_ _
        obtain ⟨f0, f1, f2, f3, fb⟩ := four_at w2 (.cells Z2 4) (.cells Z1 142) (.cells Z3 3) (.cells #[.int .i64 c.letters, .int .i64 P, .int .i64 R, .int .i64 c.lo, .int .i64 c.hi, .int .i64 c.most, .slice s.t.a s.t.n s.t.c, .slice s.k.a s.k.n s.k.c, .slice s.i.a s.i.n s.i.c, .slice s.r.a s.r.n s.r.c, .slice (some ⟨w2.heap.size + 1, 0, none⟩) R R, .slice (some ⟨w2.heap.size, 0, none⟩) P P, .slice (some ⟨w2.heap.size + 1 + 1, 0, none⟩) P P, .int .i64 1] 99)
        have HF : Hid (Dl w2 (((((w2.alloc (.cells Z2 4)).alloc (.cells Z1 142)).alloc (.cells Z3 3)).alloc (.cells #[.int .i64 c.letters, .int .i64 P, .int .i64 R, .int .i64 c.lo, .int .i64 c.hi, .int .i64 c.most, .slice s.t.a s.t.n s.t.c, .slice s.k.a s.k.n s.k.c, .slice s.i.a s.i.n s.i.c, .slice s.r.a s.r.n s.r.c, .slice (some ⟨w2.heap.size + 1, 0, none⟩) R R, .slice (some ⟨w2.heap.size, 0, none⟩) P P, .slice (some ⟨w2.heap.size + 1 + 1, 0, none⟩) P P, .int .i64 1] 99)).drew) (w2.heap.size + 1 + 1 + 1) c s (st0 0) nilV (w2.heap.size + 1) (w2.heap.size) (w2.heap.size + 1 + 1) R P) := (dl_start (by rw [f3]; unfold dlCells; rw [HRP.out.1, HRP.out.2]; rfl) (by rw [HZ.out.1]; exact f1) (by rw [HZ.out.2.1]; exact f0) (by rw [HZ.out.2.2]; exact f2) (HC.out.below HX2.out.low) fb ⟨by omega, by omega, by omega, by omega⟩).drew
        clear f0 f1 f2 f3 fb HS
        go_wp2
        go_meet
        exact ⟨_, _, _, _, rfl, HF.out⟩
      · go_simp
        refine hKc.out _ _ (fun _ h => ⟨cell_al h.1 _, cell_al h.2.1 _, cell_al h.2.2.1 _, cell_al h.2.2.2.1 _, cell_al h.2.2.2.2.1 _, cell_al h.2.2.2.2.2.1 _, cell_al h.2.2.2.2.2.2.1 _, cell_al h.2.2.2.2.2.2.2.1 _, cell_al h.2.2.2.2.2.2.2.2.1 _, cell_al h.2.2.2.2.2.2.2.2.2 _⟩) ?_
        clear hKc Kc
        refine wpAnyY_one (i := 3) rfl (by kernel_rfl) (fun Kc hKc => ?_)
        go_simp
        refine hKc.out _ _ (fun _ h => ⟨cell_al h.1 _, cell_al h.2.1 _, cell_al h.2.2.1 _, cell_al h.2.2.2.1 _, cell_al h.2.2.2.2.1 _, cell_al h.2.2.2.2.2.1 _, cell_al h.2.2.2.2.2.2.1 _, cell_al h.2.2.2.2.2.2.2.1 _, cell_al h.2.2.2.2.2.2.2.2.1 _, cell_al h.2.2.2.2.2.2.2.2.2 _⟩) ?_
        clear hKc Kc
        refine wpAnyY_one (i := 10) rfl (by kernel_rfl) (fun Kc hKc => ?_)
        go_simp
        refine hKc.out _ _ (fun _ h => h) ?_
        clear hKc Kc
        refine wpAnyY_one (i := 11) rfl (by kernel_rfl) (fun Kc hKc => ?_)
        go_simp
        refine hKc.out _ _ (fun _ h => ⟨cell_al h.1 _, cell_al h.2.1 _, cell_al h.2.2.1 _, cell_al h.2.2.2.1 _, cell_al h.2.2.2.2.1 _, cell_al h.2.2.2.2.2.1 _, cell_al h.2.2.2.2.2.2.1 _, cell_al h.2.2.2.2.2.2.2.1 _, cell_al h.2.2.2.2.2.2.2.2.1 _, cell_al h.2.2.2.2.2.2.2.2.2 _⟩) ?_
        clear hKc Kc
        refine wpAnyY_one (i := 12) rfl (by kernel_rfl) (fun Kc hKc => ?_)
        go_simp
        refine hKc.out _ _ (fun _ h => h) ?_
        clear hKc Kc
        refine wpAnyY_done (by kernel_rfl) ?_ _
        obtain ⟨f0, f1, f2, f3, fb⟩ := four_at w2 (.cells Z2 4) (.cells Z3 3) (.cells Z1 142) (.cells #[.int .i64 c.letters, .int .i64 P, .int .i64 R, .int .i64 c.lo, .int .i64 c.hi, .int .i64 c.most, .slice s.t.a s.t.n s.t.c, .slice s.k.a s.k.n s.k.c, .slice s.i.a s.i.n s.i.c, .slice s.r.a s.r.n s.r.c, .slice (some ⟨w2.heap.size + 1 + 1, 0, none⟩) R R, .slice (some ⟨w2.heap.size, 0, none⟩) P P, .slice (some ⟨w2.heap.size + 1, 0, none⟩) P P, .int .i64 1] 99)
        have HF : Hid (Dl w2 (((((w2.alloc (.cells Z2 4)).alloc (.cells Z3 3)).alloc (.cells Z1 142)).alloc (.cells #[.int .i64 c.letters, .int .i64 P, .int .i64 R, .int .i64 c.lo, .int .i64 c.hi, .int .i64 c.most, .slice s.t.a s.t.n s.t.c, .slice s.k.a s.k.n s.k.c, .slice s.i.a s.i.n s.i.c, .slice s.r.a s.r.n s.r.c, .slice (some ⟨w2.heap.size + 1 + 1, 0, none⟩) R R, .slice (some ⟨w2.heap.size, 0, none⟩) P P, .slice (some ⟨w2.heap.size + 1, 0, none⟩) P P, .int .i64 1] 99)).drew) (w2.heap.size + 1 + 1 + 1) c s (st0 0) nilV (w2.heap.size + 1 + 1) (w2.heap.size) (w2.heap.size + 1) R P) := (dl_start (by rw [f3]; unfold dlCells; rw [HRP.out.1, HRP.out.2]; rfl) (by rw [HZ.out.1]; exact f2) (by rw [HZ.out.2.1]; exact f0) (by rw [HZ.out.2.2]; exact f1) (HC.out.below HX2.out.low) fb ⟨by omega, by omega, by omega, by omega⟩).drew
        clear f0 f1 f2 f3 fb HS
        go_wp2
        go_meet
        exact ⟨_, _, _, _, rfl, HF.out⟩
    · go_simp
      refine hKc.out _ _ (fun _ h => ⟨cell_al h.1 _, cell_al h.2.1 _, cell_al h.2.2.1 _, cell_al h.2.2.2.1 _, cell_al h.2.2.2.2.1 _, cell_al h.2.2.2.2.2.1 _, cell_al h.2.2.2.2.2.2.1 _, cell_al h.2.2.2.2.2.2.2.1 _, cell_al h.2.2.2.2.2.2.2.2.1 _, cell_al h.2.2.2.2.2.2.2.2.2 _⟩) ?_
      clear hKc Kc
      refine wpAnyY_two (i := 3) (j := 6) rfl rfl (by kernel_rfl) (fun Kc hKc => ?_) (fun Kc hKc => ?_)
      · go_simp
        refine hKc.out _ _ (fun _ h => ⟨cell_al h.1 _, cell_al h.2.1 _, cell_al h.2.2.1 _, cell_al h.2.2.2.1 _, cell_al h.2.2.2.2.1 _, cell_al h.2.2.2.2.2.1 _, cell_al h.2.2.2.2.2.2.1 _, cell_al h.2.2.2.2.2.2.2.1 _, cell_al h.2.2.2.2.2.2.2.2.1 _, cell_al h.2.2.2.2.2.2.2.2.2 _⟩) ?_
        clear hKc Kc
        refine wpAnyY_one (i := 6) rfl (by kernel_rfl) (fun Kc hKc => ?_)
        go_simp
        refine hKc.out _ _ (fun _ h => ⟨cell_al h.1 _, cell_al h.2.1 _, cell_al h.2.2.1 _, cell_al h.2.2.2.1 _, cell_al h.2.2.2.2.1 _, cell_al h.2.2.2.2.2.1 _, cell_al h.2.2.2.2.2.2.1 _, cell_al h.2.2.2.2.2.2.2.1 _, cell_al h.2.2.2.2.2.2.2.2.1 _, cell_al h.2.2.2.2.2.2.2.2.2 _⟩) ?_
        clear hKc Kc
        refine wpAnyY_one (i := 10) rfl (by kernel_rfl) (fun Kc hKc => ?_)
        go_simp
        refine hKc.out _ _ (fun _ h => h) ?_
        clear hKc Kc
        refine wpAnyY_one (i := 11) rfl (by kernel_rfl) (fun Kc hKc => ?_)
        go_simp
        refine hKc.out _ _ (fun _ h => ⟨cell_al h.1 _, cell_al h.2.1 _, cell_al h.2.2.1 _, cell_al h.2.2.2.1 _, cell_al h.2.2.2.2.1 _, cell_al h.2.2.2.2.2.1 _, cell_al h.2.2.2.2.2.2.1 _, cell_al h.2.2.2.2.2.2.2.1 _, cell_al h.2.2.2.2.2.2.2.2.1 _, cell_al h.2.2.2.2.2.2.2.2.2 _⟩) ?_
        clear hKc Kc
        refine wpAnyY_one (i := 12) rfl (by kernel_rfl) (fun Kc hKc => ?_)
        go_simp
        refine hKc.out _ _ (fun _ h => h) ?_
        clear hKc Kc
        refine wpAnyY_done (by kernel_rfl) ?_ _
        obtain ⟨f0, f1, f2, f3, fb⟩ := four_at w2 (.cells Z3 3) (.cells Z1 142) (.cells Z2 4) (.cells #[.int .i64 c.letters, .int .i64 P, .int .i64 R, .int .i64 c.lo, .int .i64 c.hi, .int .i64 c.most, .slice s.t.a s.t.n s.t.c, .slice s.k.a s.k.n s.k.c, .slice s.i.a s.i.n s.i.c, .slice s.r.a s.r.n s.r.c, .slice (some ⟨w2.heap.size + 1, 0, none⟩) R R, .slice (some ⟨w2.heap.size + 1 + 1, 0, none⟩) P P, .slice (some ⟨w2.heap.size, 0, none⟩) P P, .int .i64 1] 99)
        have HF : Hid (Dl w2 (((((w2.alloc (.cells Z3 3)).alloc (.cells Z1 142)).alloc (.cells Z2 4)).alloc (.cells #[.int .i64 c.letters, .int .i64 P, .int .i64 R, .int .i64 c.lo, .int .i64 c.hi, .int .i64 c.most, .slice s.t.a s.t.n s.t.c, .slice s.k.a s.k.n s.k.c, .slice s.i.a s.i.n s.i.c, .slice s.r.a s.r.n s.r.c, .slice (some ⟨w2.heap.size + 1, 0, none⟩) R R, .slice (some ⟨w2.heap.size + 1 + 1, 0, none⟩) P P, .slice (some ⟨w2.heap.size, 0, none⟩) P P, .int .i64 1] 99)).drew) (w2.heap.size + 1 + 1 + 1) c s (st0 0) nilV (w2.heap.size + 1) (w2.heap.size + 1 + 1) (w2.heap.size) R P) := (dl_start (by rw [f3]; unfold dlCells; rw [HRP.out.1, HRP.out.2]; rfl) (by rw [HZ.out.1]; exact f1) (by rw [HZ.out.2.1]; exact f2) (by rw [HZ.out.2.2]; exact f0) (HC.out.below HX2.out.low) fb ⟨by omega, by omega, by omega, by omega⟩).drew
        clear f0 f1 f2 f3 fb HS
        go_wp2
        go_meet
        exact ⟨_, _, _, _, rfl, HF.out⟩
      · go_simp
        refine hKc.out _ _ (fun _ h => ⟨cell_al h.1 _, cell_al h.2.1 _, cell_al h.2.2.1 _, cell_al h.2.2.2.1 _, cell_al h.2.2.2.2.1 _, cell_al h.2.2.2.2.2.1 _, cell_al h.2.2.2.2.2.2.1 _, cell_al h.2.2.2.2.2.2.2.1 _, cell_al h.2.2.2.2.2.2.2.2.1 _, cell_al h.2.2.2.2.2.2.2.2.2 _⟩) ?_
        clear hKc Kc
        refine wpAnyY_one (i := 3) rfl (by kernel_rfl) (fun Kc hKc => ?_)
        go_simp
        refine hKc.out _ _ (fun _ h => ⟨cell_al h.1 _, cell_al h.2.1 _, cell_al h.2.2.1 _, cell_al h.2.2.2.1 _, cell_al h.2.2.2.2.1 _, cell_al h.2.2.2.2.2.1 _, cell_al h.2.2.2.2.2.2.1 _, cell_al h.2.2.2.2.2.2.2.1 _, cell_al h.2.2.2.2.2.2.2.2.1 _, cell_al h.2.2.2.2.2.2.2.2.2 _⟩) ?_
        clear hKc Kc
        refine wpAnyY_one (i := 10) rfl (by kernel_rfl) (fun Kc hKc => ?_)
        go_simp
        refine hKc.out _ _ (fun _ h => h) ?_
        clear hKc Kc
        refine wpAnyY_one (i := 11) rfl (by kernel_rfl) (fun Kc hKc => ?_)
        go_simp
        refine hKc.out _ _ (fun _ h => ⟨cell_al h.1 _, cell_al h.2.1 _, cell_al h.2.2.1 _, cell_al h.2.2.2.1 _, cell_al h.2.2.2.2.1 _, cell_al h.2.2.2.2.2.1 _, cell_al h.2.2.2.2.2.2.1 _, cell_al h.2.2.2.2.2.2.2.1 _, cell_al h.2.2.2.2.2.2.2.2.1 _, cell_al h.2.2.2.2.2.2.2.2.2 _⟩) ?_
        clear hKc Kc
        refine wpAnyY_one (i := 12) rfl (by kernel_rfl) (fun Kc hKc => ?_)
        go_simp
        refine hKc.out _ _ (fun _ h => h) ?_
        clear hKc Kc
        refine wpAnyY_done (by kernel_rfl) ?_ _
        obtain ⟨f0, f1, f2, f3, fb⟩ := four_at w2 (.cells Z3 3) (.cells Z2 4) (.cells Z1 142) (.cells #[.int .i64 c.letters, .int .i64 P, .int .i64 R, .int .i64 c.lo, .int .i64 c.hi, .int .i64 c.most, .slice s.t.a s.t.n s.t.c, .slice s.k.a s.k.n s.k.c, .slice s.i.a s.i.n s.i.c, .slice s.r.a s.r.n s.r.c, .slice (some ⟨w2.heap.size + 1 + 1, 0, none⟩) R R, .slice (some ⟨w2.heap.size + 1, 0, none⟩) P P, .slice (some ⟨w2.heap.size, 0, none⟩) P P, .int .i64 1] 99)
        have HF : Hid (Dl w2 (((((w2.alloc (.cells Z3 3)).alloc (.cells Z2 4)).alloc (.cells Z1 142)).alloc (.cells #[.int .i64 c.letters, .int .i64 P, .int .i64 R, .int .i64 c.lo, .int .i64 c.hi, .int .i64 c.most, .slice s.t.a s.t.n s.t.c, .slice s.k.a s.k.n s.k.c, .slice s.i.a s.i.n s.i.c, .slice s.r.a s.r.n s.r.c, .slice (some ⟨w2.heap.size + 1 + 1, 0, none⟩) R R, .slice (some ⟨w2.heap.size + 1, 0, none⟩) P P, .slice (some ⟨w2.heap.size, 0, none⟩) P P, .int .i64 1] 99)).drew) (w2.heap.size + 1 + 1 + 1) c s (st0 0) nilV (w2.heap.size + 1 + 1) (w2.heap.size + 1) (w2.heap.size) R P) := (dl_start (by rw [f3]; unfold dlCells; rw [HRP.out.1, HRP.out.2]; rfl) (by rw [HZ.out.1]; exact f2) (by rw [HZ.out.2.1]; exact f1) (by rw [HZ.out.2.2]; exact f0) (HC.out.below HX2.out.low) fb ⟨by omega, by omega, by omega, by omega⟩).drew
        clear f0 f1 f2 f3 fb HS
        go_wp2
        go_meet
        exact ⟨_, _, _, _, rfl, HF.out⟩
  case rest =>
    rename World => w3
    obtain ⟨b, gr, gk, gw, rfl, hdl⟩ := hcut
    have HD0 : Hid (Dl w2 w3 b c s (st0 0) nilV gr gk gw R P) := hdl
    have HNc : Hid (c.cell.length = s.i.n) := HC.out.cell.length
    have hnk : s.i.n ≤ 1000 := by have := HR.out.clen; have := HNc.out; omega
    clear c0 c1 c2 c3 c4 c5 c6 c7 c8 c9
    clear hdl m1 m2 m3 HZ hsz
    go_wp2
    go_loopw [6, 7] (fun i _ wr => ∃ (k : Nat) (S : St) (wv : Nat → Value), k ≤ s.i.n ∧ i = .int .i64 k ∧ goP c (st0 0) 0 c.cell = goP c S k (c.cell.drop k) ∧ Wt S ∧ Bd S k ∧ Dl w2 wr b c s S wv gr gk gw R P) (fun i _ _ => s.i.n - (intOf i).toNat)
    case atStart => exact ⟨0, st0 0, nilV, Nat.zero_le _, rfl, rfl, wt_start, Bd.start, HD0.out⟩
    case round =>
      obtain ⟨k, S, wv, hk, rfl, hgo, hwt, hbd, hdl⟩ := hrel
      have HG : Hid (goP c (st0 0) 0 c.cell = goP c S k (c.cell.drop k)) := hgo
      have HWB : Hid (Wt S ∧ Bd S k) := ⟨hwt, hbd⟩
      have HD : Hid (Dl w2 wr b c s S wv gr gk gw R P) := hdl
      clear hgo hwt hbd hdl HD0
      have HXr : Hid (Bx w (cdCells c s) wr) := HX2.out.next HD.out.low
      have p8 := HXr.out.cell 8 (.slice s.i.a s.i.n s.i.c) rfl
      by_cases hlt : k < s.i.n
      · obtain ⟨q, hq⟩ := get_lt (l := c.cell) (k := k) (by rw [HNc.out]; exact hlt)
        obtain ⟨bb, off, hra, hcs⟩ := ((HC.out.below HXr.out.low).cell).cells (by omega)
        obtain ⟨x1, x2, x3, x4⟩ := hcs k q hq
        have hqr := HR.out.cell q (List.mem_of_getElem? hq)
        have HDr : Hid (c.cell.drop k = q :: c.cell.drop (k + 1)) := drop_cons hq
        clear hcs hq
        rw [hra] at p8
        obtain ⟨o, x, y, z⟩ := q
        simp only at x1 x2 x3 x4 hqr
        obtain ⟨x, rfl⟩ : ∃ n : Nat, x = n := ⟨x.toNat, by omega⟩
        obtain ⟨y, rfl⟩ : ∃ n : Nat, y = n := ⟨y.toNat, by omega⟩
        obtain ⟨z, rfl⟩ : ∃ n : Nat, z = n := ⟨z.toNat, by omega⟩
        have HO : Hid (1 ≤ o ∧ o ≤ 8) := hqr.1
        clear hqr hra
        obtain ⟨er, her⟩ : ∃ e, errB c S (o, (x : Int), (y : Int), (z : Int)) = e := ⟨_, rfl⟩
        have HE : Hid (errB c S (o, (x : Int), (y : Int), (z : Int)) = er) := her
        clear her
        go_wp2_with fail
        refine (dstep_calls o x y z HD.out HO.out HRP.out.1 HRP.out.2 HWB.out.1 (HWB.out.2.mono (by omega))).mono ?_
        rintro e w4 ⟨rfl, hst, hlow⟩
        rw [HE.out]
        have HSt : Hid (errB c S (o, (x : Int), (y : Int), (z : Int)) = 0 → ∃ wv', Dl w2 w4 b c s (pastP S (o, x, y, z)) wv' gr gk gw R P) := hst
        have HLo : Hid (Below w.heap.size w w4) := (HX2.out.next hlow).low
        clear hst hlow x1 x2 x3 x4 p8
        by_cases h0 : er = 0
        · have hd : (er != 0) = false := by simp [h0]
          have HGn : Hid (goP c (st0 0) 0 c.cell = goP c (pastP S (o, x, y, z)) (k + 1) (c.cell.drop (k + 1))) := by
            show _ = _
            rw [HG.out, HDr.out, goP, if_pos (HE.out.trans h0)]
          have HDn : Hid (∃ wv', Dl w2 w4 b c s (pastP S (o, x, y, z)) wv' gr gk gw R P) := HSt.out (HE.out.trans h0)
          clear h0 HD HXr
          go_wp2
          go_roundw
          case rel =>
            obtain ⟨wv', hdn⟩ := HDn.out
            exact ⟨k + 1, _, wv', by omega, by go_num, HGn.out, wt_past HWB.out.1 _, HWB.out.2.past _, hdn⟩
          case measure => simp [intOf]; omega
        · have hd : (er != 0) = true := by simp [h0]
          have HGn : Hid ((goP c (st0 0) 0 c.cell).1 = ((k : Int), er)) := by
            show _ = _
            rw [HG.out, HDr.out, goP, if_neg (by rw [HE.out]; exact h0), HE.out]
          have HF : Hid (chkB c = ((k : Int), er)) := (chk2 H1.out H2.out (by rw [HGn.out]; exact h0)).trans HGn.out
          clear h0
          go_wp2
          go_ret2
          exact ⟨tup2 HF.out, HLo.out⟩
      · obtain rfl : k = s.i.n := by omega
        have HGn : Hid (goP c (st0 0) 0 c.cell = ((-1, 0), S)) := by
          show _ = _
          rw [HG.out, List.drop_of_length_le (by rw [HNc.out]; exact Nat.le_refl _)]; rfl
        have HE0 : Hid ((goP c (st0 0) 0 c.cell).1.2 = 0) := by show _ = _; rw [HGn.out]
        clear hlt hk HG
        have HD1 : Hid (Dl w2 wr b c s S wv gr gk gw R P) := HD.out
        have p1 : wr.cell? ⟨w.heap.size, 1, none⟩ = some (.int .i64 P) := by have := HXr.out.cell 1 (.int .i64 c.planes) rfl; rwa [HRP.out.2] at this
        have k11 := HD1.out.cell 11 (v := .slice (some ⟨gk, 0, none⟩) P P) rfl
        have KP : ∀ j, j < P → wr.cell? ⟨gk, j, none⟩ = some (.bool (S.pl j).1) := fun j hj => HD1.out.kp j hj
        have HKP : Hid (∀ j, j < P → wr.cell? ⟨gk, j, none⟩ = some (.bool (S.pl j).1)) := KP
        clear KP HD
        obtain ⟨wo, hwo⟩ : ∃ wo, wo = wr := ⟨wr, rfl⟩
        rw [← hwo] at HD1 p1 k11 HKP HXr p8 ⊢
        clear hwo
        clear wr
        go_wp2
        go_loop [8] (fun i => ∃ j : Nat, j ≤ P ∧ i = .int .i64 j ∧ ∀ p, p < j → (S.pl p).1 = true) (fun i => P - (intOf i).toNat)
        case atStart => exact ⟨0, Nat.zero_le _, rfl, fun p hp => by omega⟩
        case round =>
          obtain ⟨j, hj, rfl, hall⟩ := hrel
          have HAl : Hid (∀ p, p < j → (S.pl p).1 = true) := hall
          clear hall
          by_cases hlt : j < P
          · have kj := HKP.out j hlt
            obtain ⟨v, hv⟩ : ∃ v, (S.pl j).1 = v := ⟨_, rfl⟩
            have HV : Hid ((S.pl j).1 = v) := hv
            rw [hv] at kj
            clear hv
            cases v
            · have HF : Hid (chkB c = (-1, 164)) := chk3 H1.out H2.out HE0.out (by
                rw [HGn.out, HRP.out.2, Int.toNat_natCast, allK, List.all_eq_false]
                exact ⟨j, List.mem_range.2 hlt, by rw [HV.out]; decide⟩)
              go_wp2
              go_ret2
              exact ⟨tup2 HF.out, HXr.out.low⟩
            · go_wp2
              go_round
              case rel =>
                refine ⟨j + 1, by omega, by go_num, fun p hp => ?_⟩
                by_cases e : p = j
                · subst e; exact HV.out
                · exact HAl.out p (by omega)
              case measure => simp [intOf]; omega
          · obtain rfl : j = P := by omega
            have HK : Hid (allK (goP c (st0 0) 0 c.cell).2 c.planes.toNat = true) := by
              show _ = _
              rw [HGn.out, HRP.out.2, Int.toNat_natCast, allK, List.all_eq_true]
              exact fun p hp => HAl.out p (List.mem_range.1 hp)
            clear k11 hlt hj HAl HKP p8
            go_upto_region 19 with (fail)
            clear p1
            have c0 := HXr.out.cell 0 (.int .i64 c.letters) rfl
            have c1 := HXr.out.cell 1 (.int .i64 c.planes) rfl
            have c2 := HXr.out.cell 2 (.int .i64 c.regs) rfl
            have c3 := HXr.out.cell 3 (.int .i64 c.lo) rfl
            have c4 := HXr.out.cell 4 (.int .i64 c.hi) rfl
            have c5 := HXr.out.cell 5 (.int .i64 c.most) rfl
            have c6 := HXr.out.cell 6 (.slice s.t.a s.t.n s.t.c) rfl
            have c7 := HXr.out.cell 7 (.slice s.k.a s.k.n s.k.c) rfl
            have c8 := HXr.out.cell 8 (.slice s.i.a s.i.n s.i.c) rfl
            have c9 := HXr.out.cell 9 (.slice s.r.a s.r.n s.r.c) rfl
            go_wp2_with fail
            refine (dgreatest_calls c s _ (HC.out.below HXr.out.low) (by rw [← HC.out.table.length]; exact tab_few H1.out) (by rw [← HC.out.consts.length]; exact HR.out.klen) (fun z hz => by
              rcases List.mem_append.1 hz with h | h
              · exact HR.out.table z h
              · exact HR.out.consts z h)).mono ?_
            rintro e w5 ⟨rfl, hb⟩
            have HX5 : Hid (Bx w (cdCells c s) w5) := HXr.out.next hb
            have HD5 : Hid (Dl w2 w5 b c s S wv gr gk gw R j) := HD1.out.next hb
            clear c0 c1 c2 c3 c4 c5 c6 c7 c8 c9
            clear hb HXr HD1
            have k13 := HD5.out.cell 13 (v := .int .i64 (max S.top 1)) rfl
            have p5 := HX5.out.cell 5 (.int .i64 c.most) rfl
            have HT : Hid (0 ≤ S.top ∧ S.top ≤ 1000) := ⟨HWB.out.2.top.1, by have := HWB.out.2.top.2; omega⟩
            obtain ⟨t, ht⟩ : ∃ t, max S.top 1 = t := ⟨_, rfl⟩
            rw [ht] at k13
            have ht1 : 1 ≤ t := by omega
            have ht2 : t ≤ 1000 := by have := HT.out; omega
            have hm0 := HR.out.most.1
            have hm1 := HR.out.most.2
            have hqb := quo_bd c hm0
            obtain ⟨Q, hQ⟩ : ∃ Q, (4611686018427387904 : Int) / (2 * c.most + 2) = Q := ⟨_, rfl⟩
            rw [hQ] at hqb
            obtain ⟨hq0, hq1⟩ := hqb
            obtain ⟨mo, hmo⟩ : ∃ mo, Q / t = mo := ⟨_, rfl⟩
            have hqb2 := quo_bd2 hq0 hq1 ht1
            rw [hmo] at hqb2
            obtain ⟨hq2, hq3⟩ := hqb2
            have HMo : Hid (mostB c S.top = mo) := by show _ = _; rw [mostB, hQ, ht, hmo]
            have htn : ¬ t = 0 := by omega
            obtain ⟨big, hbig⟩ : ∃ B, gtB (c.table ++ c.consts) = B := ⟨_, rfl⟩
            have HW4 : Hid (widB c (goP c (st0 0) 0 c.cell).2.top = decide (mo < big)) := by
              show _ = _
              rw [HGn.out, wid_gt c S.top (by rw [HMo.out]; exact hq2), HMo.out, hbig]
            rw [hbig]
            clear hbig ht
            by_cases hbg : mo < big
            · have hbd : decide (mo < big) = true := by simpa using hbg
              have HF : Hid (chkB c = (-1, if true then 165 else 0)) := chk4 H1.out H2.out HE0.out HK.out true (HW4.out.trans hbd)
              clear hbg
              go_wp2_with fail
              go_quiet (fail)
              have HL : Hid (Below w.heap.size w (w5.drewN nq)) := below_drewN HX5.out.low nq
              clear k13 p5
              generalize w5.drewN nq = wz at *
              go_wp2
              go_ret2
              exact ⟨tup2 HF.out, HL.out⟩
            · have hbd : decide (mo < big) = false := by simpa using hbg
              have HF : Hid (chkB c = (-1, if false then 165 else 0)) := chk4 H1.out H2.out HE0.out HK.out false (HW4.out.trans hbd)
              clear hbg
              go_wp2_with fail
              go_quiet (fail)
              have HL : Hid (Below w.heap.size w (w5.drewN nq)) := below_drewN HX5.out.low nq
              clear k13 p5
              generalize w5.drewN nq = wz at *
              go_wp2
              go_ret2
              exact ⟨tup2 HF.out, HL.out⟩

end Go.Proofs.YtnkfibahkmmnpaaGreat
