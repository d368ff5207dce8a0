/-
  The walk of the document's step: nothing, a start. The walk of the document's step: load, add. The walk of the document's step: meet, keep.
-/
import Derived.Test.YtnkfibahkmmnpaaGreatKr
namespace Go.Proofs.YtnkfibahkmmnpaaGreat
open Go.RowKit

theorem rc_has {w : World} {g n : Nat} {f : Nat → Ct} (h : w.heap[g]? = some (.cells (dlC f n) 103 (0, 0))) {k : Nat} (hk : k < n) : w.cell? ⟨g, k * 3, none⟩ = some (.bool (f k).has) := cell_block h _ _ (dlC_get f n hk (m := 0) (by omega))
theorem rc_num {w : World} {g n : Nat} {f : Nat → Ct} (h : w.heap[g]? = some (.cells (dlC f n) 103 (0, 0))) {k : Nat} (hk : k < n) : w.cell? ⟨g, k * 3 + 1, none⟩ = some (.int .i64 (f k).num) := cell_block h _ _ (dlC_get f n hk (m := 1) (by omega))
theorem rc_mask {w : World} {g n : Nat} {f : Nat → Ct} (h : w.heap[g]? = some (.cells (dlC f n) 103 (0, 0))) {k : Nat} (hk : k < n) : w.cell? ⟨g, k * 3 + 2, none⟩ = some (.int .i64 (f k).mask) := cell_block h _ _ (dlC_get f n hk (m := 2) (by omega))
/-- What a step leaves. -/
def SpPost (w0 : World) (p : Dp) (c : Cd) (s : Ls) (sx sy : Sl) (x y : List Int) (M : Ms) (st : Int) (e : Ending) (w' : World) : Prop := e = .returned (.tuple #[]) ∧ ∃ se2, Dt w0 w' p c s sx sy x y se2 M st
theorem act1 (c : Cd) (x y : List Int) (i j : Nat) (M : Ms) (a b r : Int) : actB c x y i j M (1, a, b, r) = { M with regs := updC M.regs a.toNat ct0 } := rfl
theorem act2 (c : Cd) (x y : List Int) (i j : Nat) (M : Ms) (a b r : Int) : actB c x y i j M (2, a, b, r) = { M with regs := updC M.regs a.toNat (if metB r (decide (i = 0)) (decide (j = 0)) then ⟨true, 0, c.consts.getD b.toNat 0⟩ else ct0) } := rfl
theorem act3 (c : Cd) (x y : List Int) (i j : Nat) (M : Ms) (a b r : Int) : actB c x y i j M (3, a, b, r) = { M with regs := updC M.regs a.toNat ⟨(atB c.planes.toNat x.length y.length M.slots b ((i : Int) - (backB r).1) ((j : Int) - (backB r).2)).has, 0, (atB c.planes.toNat x.length y.length M.slots b ((i : Int) - (backB r).1) ((j : Int) - (backB r).2)).num⟩ } := rfl
theorem act4 (c : Cd) (x y : List Int) (i j : Nat) (M : Ms) (a b r : Int) : actB c x y i j M (4, a, b, r) = { M with regs := if (M.regs a.toNat).has then updC M.regs a.toNat ⟨(M.regs a.toNat).has, (M.regs a.toNat).mask, wrap64 ((M.regs a.toNat).num + c.consts.getD b.toNat 0)⟩ else M.regs } := rfl
theorem act6 (c : Cd) (x y : List Int) (i j : Nat) (M : Ms) (a b r : Int) : actB c x y i j M (6, a, b, r) = { M with regs := updC M.regs a.toNat (metC (M.regs a.toNat) (M.regs b.toNat) r) } := rfl
theorem act7 (c : Cd) (x y : List Int) (i j : Nat) (M : Ms) (a b r : Int) : actB c x y i j M (7, a, b, r) = { M with slots := updC M.slots (placeB c.planes.toNat y.length a.toNat i j) (nzC (M.regs b.toNat)) } := rfl
theorem Dt.c19 {w0 w : World} {p : Dp} {c : Cd} {s : Ls} {sx sy se : Sl} {x y : List Int} {M : Ms} {st : Int} (h : Dt w0 w p c s sx sy x y se M st) {R : Nat} (hR : c.regs.toNat = R) : w.cell? ⟨p.b, 19, none⟩ = some (.slice (some ⟨p.gb, 0, none⟩) R R) := by rw [← hR]; exact h.cell 19 rfl
theorem Dt.c12 {w0 w : World} {p : Dp} {c : Cd} {s : Ls} {sx sy se : Sl} {x y : List Int} {M : Ms} {st : Int} (h : Dt w0 w p c s sx sy x y se M st) {P : Nat} (hP : c.planes.toNat = P) : w.cell? ⟨p.b, 12, none⟩ = some (.slice (some ⟨p.ob, 0, none⟩) P p.oc) := by rw [← hP]; exact h.cell 12 rfl
theorem upd_self (f : Nat → Ct) (k : Nat) : updC f k (f k) = f := by
  funext q
  unfold updC
  split
  · rename_i e; rw [e]
  · rfl
section
variable {w0 w : World} {p : Dp} {c : Cd} {s : Ls} {sx sy se : Sl} {x y : List Int} {M : Ms} {st : Int}
set_option maxRecDepth 10000 in
set_option maxHeartbeats 4000000 in
theorem dstep1 (h : Dt w0 w p c s sx sy x y se M st) (i j a b r : Nat) (ha : a < c.regs.toNat) :
    Calls Tryz.prog 18 #[.pointer (some ⟨p.b, 0, none⟩), .agg #[.int .i64 1, .int .i64 (a : Int), .int .i64 (b : Int), .int .i64 (r : Int)], .int .i64 (i : Int), .int .i64 (j : Int)] w (SpPost w0 p c s sx sy x y (actB c x y i j M (1, (a : Int), (b : Int), (r : Int))) st) := by
  have H0 : Hid (Dt w0 (w.alloc (.cells #[.int .i64 1, .int .i64 (a : Int), .int .i64 (b : Int), .int .i64 (r : Int)] 65)) p c s sx sy x y se M st ∧ (w.alloc (.cells #[.int .i64 1, .int .i64 (a : Int), .int .i64 (b : Int), .int .i64 (r : Int)] 65)).heap[w.heap.size]? = some (.cells #[.int .i64 1, .int .i64 (a : Int), .int .i64 (b : Int), .int .i64 (r : Int)] 65 (0, 0))) := ⟨h.next (below_new _), heap_alloc_new _ _⟩
  obtain ⟨R, hR⟩ : ∃ R, c.regs.toNat = R := ⟨_, rfl⟩
  have HR : Hid (c.regs.toNat = R) := hR
  obtain ⟨P, hP⟩ : ∃ P, c.planes.toNat = P := ⟨_, rfl⟩
  have HPl : Hid (c.planes.toNat = P) := hP
  rw [act1]
  simp only [Int.toNat_natCast]
  have Ha : Hid (a < c.regs.toNat) := ha
  have hai : (a : Int) < (R : Int) := by omega
  clear ha
  clear h hR hP
  go_enter Tryz.func18, Tryz.ntmps18
  go_upto_region 3 with (fail)
  obtain ⟨wd, hwd⟩ : ∃ wd, wd = w.alloc (.cells #[.int .i64 1, .int .i64 (a : Int), .int .i64 (b : Int), .int .i64 (r : Int)] 65) := ⟨_, rfl⟩
  rw [← hwd] at H0 ⊢
  clear hwd
  have g0 := rc_has H0.out.1.reg Ha.out
  have g1 := rc_num H0.out.1.reg Ha.out
  have g2 := rc_mask H0.out.1.reg Ha.out
  have gf : ∀ t, _ := fun t => frozen_of_row _ _ t _ _ H0.out.1.reg
  have HF : Hid (Dt w0 (d3W wd p.gb a ct0).drew p c s sx sy x y se { M with regs := updC M.regs a ct0 } st) := (H0.out.1.setReg a ct0 ct0 rfl).drew
  have HS : Hid ((fun W : World => W.cell? ⟨p.b, 19, none⟩ = some (.slice (some ⟨p.gb, 0, none⟩) R R) ∧ W.cell? ⟨w.heap.size, 1, none⟩ = some (.int .i64 (a : Int))) wd.drew) := ⟨H0.out.1.c19 HR.out, cell_block H0.out.2 1 _ rfl⟩
  refine wp_region_Y (fun j => [8].contains j) (fun W : World => W.cell? ⟨p.b, 19, none⟩ = some (.slice (some ⟨p.gb, 0, none⟩) R R) ∧ W.cell? ⟨w.heap.size, 1, none⟩ = some (.int .i64 (a : Int))) (by kernel_rfl) ?_
  refine wpAnyY_pure (i := 0) 17 (v := .pointer (some ⟨p.b, 0, none⟩)) rfl rfl (by kernel_rfl) (by kernel_rfl) (by kernel_rfl) (fun _ _ _ h => h) (Or.inl ⟨by rfl, by (intro W _; go_simp)⟩) ?_
  simp only [Act.put, List.setIfInBounds_toArray, List.set_cons_succ, List.set_cons_zero]
  refine wpAnyY_pure (i := 1) 18 (v := .pointer (some ⟨p.b, 0, none⟩)) rfl rfl (by kernel_rfl) (by kernel_rfl) (by kernel_rfl) (fun _ _ _ h => h) (Or.inl ⟨by rfl, by (intro W _; go_simp)⟩) ?_
  simp only [Act.put, List.setIfInBounds_toArray, List.set_cons_succ, List.set_cons_zero]
  refine wpAnyY_pure (i := 2) 19 (v := .pointer (some ⟨p.b, 19, none⟩)) rfl rfl (by kernel_rfl) (by kernel_rfl) (by kernel_rfl) (fun _ _ _ h => h) (Or.inl ⟨by rfl, by (intro W _; go_simp)⟩) ?_
  simp only [Act.put, List.setIfInBounds_toArray, List.set_cons_succ, List.set_cons_zero]
  refine wpAnyY_takeD (i := 3) 20 (v := .slice (some ⟨p.gb, 0, none⟩) R R) rfl rfl (by kernel_rfl) (by kernel_rfl) (late_of (by kernel_rfl)) (by kernel_rfl) (by kernel_rfl) (fun _ _ _ h => h) HS.out (Or.inl ⟨by rfl, by (intro W hW; obtain ⟨e0, e1⟩ := hW; go_simp)⟩) ?_
  simp only [Act.put, List.setIfInBounds_toArray, List.set_cons_succ, List.set_cons_zero]
  refine wpAnyY_pure (i := 4) 21 (v := .pointer (some ⟨w.heap.size, 1, none⟩)) rfl rfl (by kernel_rfl) (by kernel_rfl) (by kernel_rfl) (fun _ _ _ h => h) (Or.inl ⟨by rfl, by (intro W _; go_simp)⟩) ?_
  simp only [Act.put, List.setIfInBounds_toArray, List.set_cons_succ, List.set_cons_zero]
  refine wpAnyY_takeD (i := 5) 22 (v := .int .i64 (a : Int)) rfl rfl (by kernel_rfl) (by kernel_rfl) (late_of (by kernel_rfl)) (by kernel_rfl) (by kernel_rfl) (fun _ _ _ h => h) HS.out (Or.inl ⟨by rfl, by (intro W hW; obtain ⟨e0, e1⟩ := hW; go_simp)⟩) ?_
  simp only [Act.put, List.setIfInBounds_toArray, List.set_cons_succ, List.set_cons_zero]
  refine wpAnyY_pure (i := 6) 23 (v := .agg #[.bool false, .int .i64 0, .int .i64 0]) rfl rfl (by kernel_rfl) (by kernel_rfl) (by kernel_rfl) (fun _ _ _ h => h) (Or.inl ⟨by rfl, by (intro W _; go_simp)⟩) ?_
  simp only [Act.put, List.setIfInBounds_toArray, List.set_cons_succ, List.set_cons_zero]
  refine wpAnyY_pure (i := 7) 24 (v := .pointer (some ⟨p.gb, a * 3, none⟩)) rfl rfl (by kernel_rfl) (by kernel_rfl) (by kernel_rfl) (fun _ _ _ h => h) (Or.inl ⟨by rfl, by (intro W _; go_simp)⟩) ?_
  simp only [Act.put, List.setIfInBounds_toArray, List.set_cons_succ, List.set_cons_zero]
  refine wpAnyY_one (i := 8) rfl (by kernel_rfl) (fun Kc hKc => ?_)
  go_simp
  refine hKc.out _ _ (fun h => absurd h (by decide)) ?_
  clear hKc Kc
  refine wpAnyY_done (by kernel_rfl) ?_ _
  go_wp2
  go_end0
  exact ⟨rfl, _, HF.out⟩
set_option maxRecDepth 10000 in
set_option maxHeartbeats 4000000 in
theorem dstep2 (h : Dt w0 w p c s sx sy x y se M st) (i j a b r : Nat) (ha : a < c.regs.toNat) (hb : b < c.consts.length) (hr : r < 4) :
    Calls Tryz.prog 18 #[.pointer (some ⟨p.b, 0, none⟩), .agg #[.int .i64 2, .int .i64 (a : Int), .int .i64 (b : Int), .int .i64 (r : Int)], .int .i64 (i : Int), .int .i64 (j : Int)] w (SpPost w0 p c s sx sy x y (actB c x y i j M (2, (a : Int), (b : Int), (r : Int))) st) := by
  have H0 : Hid (Dt w0 (w.alloc (.cells #[.int .i64 2, .int .i64 (a : Int), .int .i64 (b : Int), .int .i64 (r : Int)] 65)) p c s sx sy x y se M st ∧ (w.alloc (.cells #[.int .i64 2, .int .i64 (a : Int), .int .i64 (b : Int), .int .i64 (r : Int)] 65)).heap[w.heap.size]? = some (.cells #[.int .i64 2, .int .i64 (a : Int), .int .i64 (b : Int), .int .i64 (r : Int)] 65 (0, 0))) := ⟨h.next (below_new _), heap_alloc_new _ _⟩
  obtain ⟨R, hR⟩ : ∃ R, c.regs.toNat = R := ⟨_, rfl⟩
  have HR : Hid (c.regs.toNat = R) := hR
  obtain ⟨P, hP⟩ : ∃ P, c.planes.toNat = P := ⟨_, rfl⟩
  have HPl : Hid (c.planes.toNat = P) := hP
  rw [act2]
  simp only [Int.toNat_natCast]
  have hkn := h.cd.consts.length
  obtain ⟨kb, ko, hsk, hkc⟩ := h.cd.consts.cells (by omega)
  have HKv : Hid (w0.cell? ⟨kb, ko + b, none⟩ = some (.int .i64 (c.consts.getD b 0))) := hkc b (by omega)
  have hbi : (b : Int) < (s.k.n : Int) := by omega
  have HK7 : Hid (∀ W, Dt w0 W p c s sx sy x y se { M with regs := updC M.regs a ct0 } st → W.cell? ⟨p.b, 7, none⟩ = some (.slice (some ⟨kb, ko, none⟩) s.k.n s.k.c)) := fun W hW => by rw [← hsk]; exact hW.cell 7 rfl
  obtain ⟨kv, hkv⟩ : ∃ kv, c.consts.getD b 0 = kv := ⟨_, rfl⟩
  rw [hkv] at HKv ⊢
  have HMt : Hid (∀ W, Calls Tryz.prog 36 #[.int .i64 (r : Int), .int .i64 (i : Int), .int .i64 (j : Int), .int .i64 0, .int .i64 0] W fun e w' => e = .returned (.bool (metB (r : Int) (decide (i = 0)) (decide (j = 0)))) ∧ W = w') := fun W => by
    have := dmet_calls (r : Int) (i : Int) (j : Int) 0 0 (by omega) W
    rw [show decide ((i : Int) = 0) = decide (i = 0) by rw [Bool.eq_iff_iff]; simp, show decide ((j : Int) = 0) = decide (j = 0) by rw [Bool.eq_iff_iff]; simp] at this
    exact this
  have Ha : Hid (a < c.regs.toNat) := ha
  have hai : (a : Int) < (R : Int) := by omega
  clear ha
  obtain ⟨tv, htv⟩ : ∃ tv, (if metB (r : Int) (decide (i = 0)) (decide (j = 0)) then (⟨true, 0, kv⟩ : Ct) else ct0) = tv := ⟨_, rfl⟩
  have HTv : Hid ((if metB (r : Int) (decide (i = 0)) (decide (j = 0)) then (⟨true, 0, kv⟩ : Ct) else ct0) = tv) := htv
  rw [htv]
  clear h hR hP hkc hsk hkn hkv hr htv
  go_enter Tryz.func18, Tryz.ntmps18
  go_upto_region 5 with (fail)
  obtain ⟨wd, hwd⟩ : ∃ wd, wd = w.alloc (.cells #[.int .i64 2, .int .i64 (a : Int), .int .i64 (b : Int), .int .i64 (r : Int)] 65) := ⟨_, rfl⟩
  rw [← hwd] at H0 ⊢
  clear hwd
  have g0 := rc_has H0.out.1.reg Ha.out
  have g1 := rc_num H0.out.1.reg Ha.out
  have g2 := rc_mask H0.out.1.reg Ha.out
  have gf : ∀ t, _ := fun t => frozen_of_row _ _ t _ _ H0.out.1.reg
  have HF : Hid (Dt w0 (d3W wd p.gb a ct0).drew p c s sx sy x y se { M with regs := updC M.regs a ct0 } st ∧ (d3W wd p.gb a ct0).drew.heap[w.heap.size]? = some (.cells #[.int .i64 2, .int .i64 (a : Int), .int .i64 (b : Int), .int .i64 (r : Int)] 65 (0, 0))) := ⟨(H0.out.1.setReg a ct0 ct0 rfl).drew, by show (d3W wd p.gb a ct0).heap[w.heap.size]? = _; rw [d3_other _ _ _ _ (ty_ne H0.out.2 H0.out.1.reg (by decide))]; exact H0.out.2⟩
  have HS : Hid ((fun W : World => W.cell? ⟨p.b, 19, none⟩ = some (.slice (some ⟨p.gb, 0, none⟩) R R) ∧ W.cell? ⟨w.heap.size, 1, none⟩ = some (.int .i64 (a : Int))) wd.drew) := ⟨H0.out.1.c19 HR.out, cell_block H0.out.2 1 _ rfl⟩
  refine wp_region_Y (fun j => [8].contains j) (fun W : World => W.cell? ⟨p.b, 19, none⟩ = some (.slice (some ⟨p.gb, 0, none⟩) R R) ∧ W.cell? ⟨w.heap.size, 1, none⟩ = some (.int .i64 (a : Int))) (by kernel_rfl) ?_
  refine wpAnyY_pure (i := 0) 27 (v := .pointer (some ⟨p.b, 0, none⟩)) rfl rfl (by kernel_rfl) (by kernel_rfl) (by kernel_rfl) (fun _ _ _ h => h) (Or.inl ⟨by rfl, by (intro W _; go_simp)⟩) ?_
  simp only [Act.put, List.setIfInBounds_toArray, List.set_cons_succ, List.set_cons_zero]
  refine wpAnyY_pure (i := 1) 28 (v := .pointer (some ⟨p.b, 0, none⟩)) rfl rfl (by kernel_rfl) (by kernel_rfl) (by kernel_rfl) (fun _ _ _ h => h) (Or.inl ⟨by rfl, by (intro W _; go_simp)⟩) ?_
  simp only [Act.put, List.setIfInBounds_toArray, List.set_cons_succ, List.set_cons_zero]
  refine wpAnyY_pure (i := 2) 29 (v := .pointer (some ⟨p.b, 19, none⟩)) rfl rfl (by kernel_rfl) (by kernel_rfl) (by kernel_rfl) (fun _ _ _ h => h) (Or.inl ⟨by rfl, by (intro W _; go_simp)⟩) ?_
  simp only [Act.put, List.setIfInBounds_toArray, List.set_cons_succ, List.set_cons_zero]
  refine wpAnyY_takeD (i := 3) 30 (v := .slice (some ⟨p.gb, 0, none⟩) R R) rfl rfl (by kernel_rfl) (by kernel_rfl) (late_of (by kernel_rfl)) (by kernel_rfl) (by kernel_rfl) (fun _ _ _ h => h) HS.out (Or.inl ⟨by rfl, by (intro W hW; obtain ⟨e0, e1⟩ := hW; go_simp)⟩) ?_
  simp only [Act.put, List.setIfInBounds_toArray, List.set_cons_succ, List.set_cons_zero]
  refine wpAnyY_pure (i := 4) 31 (v := .pointer (some ⟨w.heap.size, 1, none⟩)) rfl rfl (by kernel_rfl) (by kernel_rfl) (by kernel_rfl) (fun _ _ _ h => h) (Or.inl ⟨by rfl, by (intro W _; go_simp)⟩) ?_
  simp only [Act.put, List.setIfInBounds_toArray, List.set_cons_succ, List.set_cons_zero]
  refine wpAnyY_takeD (i := 5) 32 (v := .int .i64 (a : Int)) rfl rfl (by kernel_rfl) (by kernel_rfl) (late_of (by kernel_rfl)) (by kernel_rfl) (by kernel_rfl) (fun _ _ _ h => h) HS.out (Or.inl ⟨by rfl, by (intro W hW; obtain ⟨e0, e1⟩ := hW; go_simp)⟩) ?_
  simp only [Act.put, List.setIfInBounds_toArray, List.set_cons_succ, List.set_cons_zero]
  refine wpAnyY_pure (i := 6) 33 (v := .agg #[.bool false, .int .i64 0, .int .i64 0]) rfl rfl (by kernel_rfl) (by kernel_rfl) (by kernel_rfl) (fun _ _ _ h => h) (Or.inl ⟨by rfl, by (intro W _; go_simp)⟩) ?_
  simp only [Act.put, List.setIfInBounds_toArray, List.set_cons_succ, List.set_cons_zero]
  refine wpAnyY_pure (i := 7) 34 (v := .pointer (some ⟨p.gb, a * 3, none⟩)) rfl rfl (by kernel_rfl) (by kernel_rfl) (by kernel_rfl) (fun _ _ _ h => h) (Or.inl ⟨by rfl, by (intro W _; go_simp)⟩) ?_
  simp only [Act.put, List.setIfInBounds_toArray, List.set_cons_succ, List.set_cons_zero]
  refine wpAnyY_one (i := 8) rfl (by kernel_rfl) (fun Kc hKc => ?_)
  go_simp
  refine hKc.out _ _ (fun h => absurd h (by decide)) ?_
  clear hKc Kc
  refine wpAnyY_done (by kernel_rfl) ?_ _
  unfold d3W ct0 at HF
  obtain ⟨we, hwe⟩ : ∃ we, we = (((wd.setCell ⟨p.gb, a * 3, none⟩ (.bool false)).setCell ⟨p.gb, a * 3 + 1, none⟩ (.int .i64 0)).setCell ⟨p.gb, a * 3 + 2, none⟩ (.int .i64 0)).drew := ⟨_, rfl⟩
  have H2 : Hid (Dt w0 we p c s sx sy x y se { M with regs := updC M.regs a ct0 } st ∧ we.heap[w.heap.size]? = some (.cells #[.int .i64 2, .int .i64 (a : Int), .int .i64 (b : Int), .int .i64 (r : Int)] 65 (0, 0))) := by rw [hwe]; exact HF
  rw [← hwe]
  clear hwe HF g0 g1 g2 gf H0
  have c3 := cell_block H2.out.2 3 _ rfl
  go_wp2_with fail
  refine (HMt.out _).mono ?_
  rintro e w1 ⟨rfl, rfl⟩
  clear c3 HMt
  cases hmt : metB (r : Int) (decide (i = 0)) (decide (j = 0)) with
  | false =>
    have htv2 : ct0 = tv := by rw [← HTv.out, hmt]; rfl
    subst htv2
    have HF : Hid (Dt w0 we p c s sx sy x y se { M with regs := updC M.regs a ct0 } st) := H2.out.1
    clear hmt H2 HTv
    go_wp2
    go_end0
    exact ⟨rfl, _, HF.out⟩
  | true =>
    have htv2 : ⟨true, 0, kv⟩ = tv := by rw [← HTv.out, hmt]; rfl
    subst htv2
    clear hmt HTv
    go_upto_region 8 with (fail)
    have g0 := rc_has H2.out.1.reg Ha.out
    have g1 := rc_num H2.out.1.reg Ha.out
    have g2 := rc_mask H2.out.1.reg Ha.out
    have gf : ∀ t, _ := fun t => frozen_of_row _ _ t _ _ H2.out.1.reg
    have HF : Hid (Dt w0 (d3W we p.gb a ⟨true, 0, kv⟩).drew p c s sx sy x y se { M with regs := updC M.regs a ⟨true, 0, kv⟩ } st) := by
      have := (H2.out.1.setReg a ⟨true, 0, kv⟩ ⟨true, 0, kv⟩ rfl).drew
      have e : updC (updC M.regs a ct0) a ⟨true, 0, kv⟩ = updC M.regs a ⟨true, 0, kv⟩ := by
        funext t; unfold updC; split <;> rfl
      simp only [e] at this
      exact this
    have HS : Hid ((fun W : World => W.cell? ⟨p.b, 19, none⟩ = some (.slice (some ⟨p.gb, 0, none⟩) R R) ∧ W.cell? ⟨w.heap.size, 1, none⟩ = some (.int .i64 (a : Int)) ∧ W.cell? ⟨p.b, 7, none⟩ = some (.slice (some ⟨kb, ko, none⟩) s.k.n s.k.c) ∧ W.cell? ⟨w.heap.size, 2, none⟩ = some (.int .i64 (b : Int)) ∧ W.cell? ⟨kb, ko + b, none⟩ = some (.int .i64 kv)) we.drew) := ⟨H2.out.1.c19 HR.out, cell_block H2.out.2 1 _ rfl, HK7.out _ H2.out.1.drew, cell_block H2.out.2 2 _ rfl, cell_bl H2.out.1.low HKv.out⟩
    refine wp_region_Y (fun j => [17].contains j) (fun W : World => W.cell? ⟨p.b, 19, none⟩ = some (.slice (some ⟨p.gb, 0, none⟩) R R) ∧ W.cell? ⟨w.heap.size, 1, none⟩ = some (.int .i64 (a : Int)) ∧ W.cell? ⟨p.b, 7, none⟩ = some (.slice (some ⟨kb, ko, none⟩) s.k.n s.k.c) ∧ W.cell? ⟨w.heap.size, 2, none⟩ = some (.int .i64 (b : Int)) ∧ W.cell? ⟨kb, ko + b, none⟩ = some (.int .i64 kv)) (by kernel_rfl) ?_
    refine wpAnyY_pure (i := 0) 41 (v := .pointer (some ⟨p.b, 0, none⟩)) rfl rfl (by kernel_rfl) (by kernel_rfl) (by kernel_rfl) (fun _ _ _ h => h) (Or.inl ⟨by rfl, by (intro W _; go_simp)⟩) ?_
    simp only [Act.put, List.setIfInBounds_toArray, List.set_cons_succ, List.set_cons_zero]
    refine wpAnyY_pure (i := 1) 42 (v := .pointer (some ⟨p.b, 0, none⟩)) rfl rfl (by kernel_rfl) (by kernel_rfl) (by kernel_rfl) (fun _ _ _ h => h) (Or.inl ⟨by rfl, by (intro W _; go_simp)⟩) ?_
    simp only [Act.put, List.setIfInBounds_toArray, List.set_cons_succ, List.set_cons_zero]
    refine wpAnyY_pure (i := 2) 43 (v := .pointer (some ⟨p.b, 19, none⟩)) rfl rfl (by kernel_rfl) (by kernel_rfl) (by kernel_rfl) (fun _ _ _ h => h) (Or.inl ⟨by rfl, by (intro W _; go_simp)⟩) ?_
    simp only [Act.put, List.setIfInBounds_toArray, List.set_cons_succ, List.set_cons_zero]
    refine wpAnyY_takeD (i := 3) 44 (v := .slice (some ⟨p.gb, 0, none⟩) R R) rfl rfl (by kernel_rfl) (by kernel_rfl) (late_of (by kernel_rfl)) (by kernel_rfl) (by kernel_rfl) (fun _ _ _ h => h) HS.out (Or.inl ⟨by rfl, by (intro W hW; obtain ⟨e0, e1, e2, e3, e4⟩ := hW; go_simp)⟩) ?_
    simp only [Act.put, List.setIfInBounds_toArray, List.set_cons_succ, List.set_cons_zero]
    refine wpAnyY_pure (i := 4) 45 (v := .pointer (some ⟨w.heap.size, 1, none⟩)) rfl rfl (by kernel_rfl) (by kernel_rfl) (by kernel_rfl) (fun _ _ _ h => h) (Or.inl ⟨by rfl, by (intro W _; go_simp)⟩) ?_
    simp only [Act.put, List.setIfInBounds_toArray, List.set_cons_succ, List.set_cons_zero]
    refine wpAnyY_takeD (i := 5) 46 (v := .int .i64 (a : Int)) rfl rfl (by kernel_rfl) (by kernel_rfl) (late_of (by kernel_rfl)) (by kernel_rfl) (by kernel_rfl) (fun _ _ _ h => h) HS.out (Or.inl ⟨by rfl, by (intro W hW; obtain ⟨e0, e1, e2, e3, e4⟩ := hW; go_simp)⟩) ?_
    simp only [Act.put, List.setIfInBounds_toArray, List.set_cons_succ, List.set_cons_zero]
    refine wpAnyY_pure (i := 6) 47 (v := .pointer (some ⟨p.b, 0, none⟩)) rfl rfl (by kernel_rfl) (by kernel_rfl) (by kernel_rfl) (fun _ _ _ h => h) (Or.inl ⟨by rfl, by (intro W _; go_simp)⟩) ?_
    simp only [Act.put, List.setIfInBounds_toArray, List.set_cons_succ, List.set_cons_zero]
    refine wpAnyY_pure (i := 7) 48 (v := .pointer (some ⟨p.b, 0, none⟩)) rfl rfl (by kernel_rfl) (by kernel_rfl) (by kernel_rfl) (fun _ _ _ h => h) (Or.inl ⟨by rfl, by (intro W _; go_simp)⟩) ?_
    simp only [Act.put, List.setIfInBounds_toArray, List.set_cons_succ, List.set_cons_zero]
    refine wpAnyY_pure (i := 8) 49 (v := .pointer (some ⟨p.b, 0, none⟩)) rfl rfl (by kernel_rfl) (by kernel_rfl) (by kernel_rfl) (fun _ _ _ h => h) (Or.inl ⟨by rfl, by (intro W _; go_simp)⟩) ?_
    simp only [Act.put, List.setIfInBounds_toArray, List.set_cons_succ, List.set_cons_zero]
    refine wpAnyY_pure (i := 9) 50 (v := .pointer (some ⟨p.b, 7, none⟩)) rfl rfl (by kernel_rfl) (by kernel_rfl) (by kernel_rfl) (fun _ _ _ h => h) (Or.inl ⟨by rfl, by (intro W _; go_simp)⟩) ?_
    simp only [Act.put, List.setIfInBounds_toArray, List.set_cons_succ, List.set_cons_zero]
    refine wpAnyY_takeD (i := 10) 51 (v := .slice (some ⟨kb, ko, none⟩) s.k.n s.k.c) rfl rfl (by kernel_rfl) (by kernel_rfl) (late_of (by kernel_rfl)) (by kernel_rfl) (by kernel_rfl) (fun _ _ _ h => h) HS.out (Or.inl ⟨by rfl, by (intro W hW; obtain ⟨e0, e1, e2, e3, e4⟩ := hW; go_simp)⟩) ?_
    simp only [Act.put, List.setIfInBounds_toArray, List.set_cons_succ, List.set_cons_zero]
    refine wpAnyY_pure (i := 11) 52 (v := .pointer (some ⟨w.heap.size, 2, none⟩)) rfl rfl (by kernel_rfl) (by kernel_rfl) (by kernel_rfl) (fun _ _ _ h => h) (Or.inl ⟨by rfl, by (intro W _; go_simp)⟩) ?_
    simp only [Act.put, List.setIfInBounds_toArray, List.set_cons_succ, List.set_cons_zero]
    refine wpAnyY_takeD (i := 12) 53 (v := .int .i64 (b : Int)) rfl rfl (by kernel_rfl) (by kernel_rfl) (late_of (by kernel_rfl)) (by kernel_rfl) (by kernel_rfl) (fun _ _ _ h => h) HS.out (Or.inl ⟨by rfl, by (intro W hW; obtain ⟨e0, e1, e2, e3, e4⟩ := hW; go_simp)⟩) ?_
    simp only [Act.put, List.setIfInBounds_toArray, List.set_cons_succ, List.set_cons_zero]
    refine wpAnyY_pure (i := 13) 54 (v := .pointer (some ⟨kb, ko + b, none⟩)) rfl rfl (by kernel_rfl) (by kernel_rfl) (by kernel_rfl) (fun _ _ _ h => h) (Or.inl ⟨by rfl, by (intro W _; go_simp)⟩) ?_
    simp only [Act.put, List.setIfInBounds_toArray, List.set_cons_succ, List.set_cons_zero]
    refine wpAnyY_takeD (i := 14) 55 (v := .int .i64 kv) rfl rfl (by kernel_rfl) (by kernel_rfl) (late_of (by kernel_rfl)) (by kernel_rfl) (by kernel_rfl) (fun _ _ _ h => h) HS.out (Or.inl ⟨by rfl, by (intro W hW; obtain ⟨e0, e1, e2, e3, e4⟩ := hW; go_simp)⟩) ?_
    simp only [Act.put, List.setIfInBounds_toArray, List.set_cons_succ, List.set_cons_zero]
    refine wpAnyY_pure (i := 15) 56 (v := .agg #[.bool true, .int .i64 kv, .int .i64 0]) rfl rfl (by kernel_rfl) (by kernel_rfl) (by kernel_rfl) (fun _ _ _ h => h) (Or.inl ⟨by rfl, by (intro W _; go_simp)⟩) ?_
    simp only [Act.put, List.setIfInBounds_toArray, List.set_cons_succ, List.set_cons_zero]
    refine wpAnyY_pure (i := 16) 57 (v := .pointer (some ⟨p.gb, a * 3, none⟩)) rfl rfl (by kernel_rfl) (by kernel_rfl) (by kernel_rfl) (fun _ _ _ h => h) (Or.inl ⟨by rfl, by (intro W _; go_simp)⟩) ?_
    simp only [Act.put, List.setIfInBounds_toArray, List.set_cons_succ, List.set_cons_zero]
    refine wpAnyY_one (i := 17) rfl (by kernel_rfl) (fun Kc hKc => ?_)
    go_simp
    refine hKc.out _ _ (fun h => absurd h (by decide)) ?_
    clear hKc Kc
    refine wpAnyY_done (by kernel_rfl) ?_ _
    go_wp2
    go_end0
    exact ⟨rfl, _, HF.out⟩
end

end Go.Proofs.YtnkfibahkmmnpaaGreat
namespace Go.Proofs.YtnkfibahkmmnpaaGreat
open Go.RowKit

theorem wrap_is (z : Int) : wrap64 z = IntKind.i64.wrap z := by
  rw [IntKind.wrap_i64]; unfold wrap64; omega
theorem Nrm.nzAt {c : Cd} {X Y : Nat} {M : Ms} (h : Nrm c X Y M) (q u v : Int) : nzC ⟨(atB c.planes.toNat X Y M.slots q u v).has, 0, (atB c.planes.toNat X Y M.slots q u v).num⟩ = ⟨(atB c.planes.toNat X Y M.slots q u v).has, 0, (atB c.planes.toNat X Y M.slots q u v).num⟩ := by
  have key : (atB c.planes.toNat X Y M.slots q u v).has = false → atB c.planes.toNat X Y M.slots q u v = ct0 := by
    intro hh
    unfold atB at hh ⊢
    split
    · rename_i e
      rw [if_pos e] at hh
      exact h.nz _ hh
    · rfl
  generalize atB c.planes.toNat X Y M.slots q u v = f at *
  cases hf : f.has with
  | true => exact nz_yes rfl
  | false => rw [key hf]; rfl
section
variable {w0 w : World} {p : Dp} {c : Cd} {s : Ls} {sx sy se : Sl} {x y : List Int} {M : Ms} {st : Int}
set_option maxRecDepth 10000 in
set_option maxHeartbeats 4000000 in
theorem dstep3 (h : Dt w0 w p c s sx sy x y se M st) (i j a b r : Nat) (hn : Nrm c x.length y.length M) (hxy : (x.length + 1) * (y.length + 1) ≤ 1048576) (ha : a < c.regs.toNat) (hb : b < c.planes.toNat) (hr : r < 4) (hi : i ≤ x.length) (hj : j ≤ y.length) (hx6 : x.length ≤ 65536) (hy6 : y.length ≤ 65536) :
    Calls Tryz.prog 18 #[.pointer (some ⟨p.b, 0, none⟩), .agg #[.int .i64 3, .int .i64 (a : Int), .int .i64 (b : Int), .int .i64 (r : Int)], .int .i64 (i : Int), .int .i64 (j : Int)] w (SpPost w0 p c s sx sy x y (actB c x y i j M (3, (a : Int), (b : Int), (r : Int))) st) := by
  have H0 : Hid (Dt w0 (w.alloc (.cells #[.int .i64 3, .int .i64 (a : Int), .int .i64 (b : Int), .int .i64 (r : Int)] 65)) p c s sx sy x y se M st ∧ (w.alloc (.cells #[.int .i64 3, .int .i64 (a : Int), .int .i64 (b : Int), .int .i64 (r : Int)] 65)).heap[w.heap.size]? = some (.cells #[.int .i64 3, .int .i64 (a : Int), .int .i64 (b : Int), .int .i64 (r : Int)] 65 (0, 0))) := ⟨h.next (below_new _), heap_alloc_new _ _⟩
  obtain ⟨R, hR⟩ : ∃ R, c.regs.toNat = R := ⟨_, rfl⟩
  have HR : Hid (c.regs.toNat = R) := hR
  obtain ⟨P, hP⟩ : ∃ P, c.planes.toNat = P := ⟨_, rfl⟩
  have HPl : Hid (c.planes.toNat = P) := hP
  rw [act3]
  simp only [Int.toNat_natCast]
  have HLd : Hid (∀ W, Dt w0 W p c s sx sy x y se M st → Calls Tryz.prog 37 #[.pointer (some ⟨p.b, 0, none⟩), .int .i64 (b : Int), .int .i64 (r : Int), .int .i64 (i : Int), .int .i64 (j : Int)] W fun e w' => e = .returned (.agg (dcA ⟨(atB c.planes.toNat x.length y.length M.slots b ((i : Int) - (backB r).1) ((j : Int) - (backB r).2)).has, 0, (atB c.planes.toNat x.length y.length M.slots b ((i : Int) - (backB r).1) ((j : Int) - (backB r).2)).num⟩)) ∧ Below W.heap.size W w') := fun W hW => dload_calls hW hn hxy b hb r (by omega) i j hi hj hx6 hy6
  have HNz : Hid (nzC ⟨(atB c.planes.toNat x.length y.length M.slots b ((i : Int) - (backB r).1) ((j : Int) - (backB r).2)).has, 0, (atB c.planes.toNat x.length y.length M.slots b ((i : Int) - (backB r).1) ((j : Int) - (backB r).2)).num⟩ = ⟨(atB c.planes.toNat x.length y.length M.slots b ((i : Int) - (backB r).1) ((j : Int) - (backB r).2)).has, 0, (atB c.planes.toNat x.length y.length M.slots b ((i : Int) - (backB r).1) ((j : Int) - (backB r).2)).num⟩) := hn.nzAt _ _ _
  have Ha : Hid (a < c.regs.toNat) := ha
  have hai : (a : Int) < (R : Int) := by omega
  clear ha
  clear h hR hP hn hxy hb hr hi hj hx6 hy6
  generalize (atB c.planes.toNat x.length y.length M.slots b ((i : Int) - (backB r).1) ((j : Int) - (backB r).2)).has = fh at *
  generalize (atB c.planes.toNat x.length y.length M.slots b ((i : Int) - (backB r).1) ((j : Int) - (backB r).2)).num = fn at *
  go_enter Tryz.func18, Tryz.ntmps18
  go_upto_region 10 with (fail)
  obtain ⟨wd, hwd⟩ : ∃ wd, wd = w.alloc (.cells #[.int .i64 3, .int .i64 (a : Int), .int .i64 (b : Int), .int .i64 (r : Int)] 65) := ⟨_, rfl⟩
  rw [← hwd] at H0 ⊢
  clear hwd
  have HS : Hid ((fun W : World => W.cell? ⟨p.b, 19, none⟩ = some (.slice (some ⟨p.gb, 0, none⟩) R R) ∧ W.cell? ⟨w.heap.size, 1, none⟩ = some (.int .i64 (a : Int)) ∧ W.cell? ⟨w.heap.size, 2, none⟩ = some (.int .i64 (b : Int)) ∧ W.cell? ⟨w.heap.size, 3, none⟩ = some (.int .i64 (r : Int))) wd.drew) := ⟨H0.out.1.c19 HR.out, cell_block H0.out.2 1 _ rfl, cell_block H0.out.2 2 _ rfl, cell_block H0.out.2 3 _ rfl⟩
  refine wp_region_Y (fun j => [15].contains j) (fun W : World => W.cell? ⟨p.b, 19, none⟩ = some (.slice (some ⟨p.gb, 0, none⟩) R R) ∧ W.cell? ⟨w.heap.size, 1, none⟩ = some (.int .i64 (a : Int)) ∧ W.cell? ⟨w.heap.size, 2, none⟩ = some (.int .i64 (b : Int)) ∧ W.cell? ⟨w.heap.size, 3, none⟩ = some (.int .i64 (r : Int))) (by kernel_rfl) ?_
  refine wpAnyY_pure (i := 0) 60 (v := .pointer (some ⟨p.b, 0, none⟩)) rfl rfl (by kernel_rfl) (by kernel_rfl) (by kernel_rfl) (fun _ _ _ h => h) (Or.inl ⟨by rfl, by (intro W _; go_simp)⟩) ?_
  simp only [Act.put, List.setIfInBounds_toArray, List.set_cons_succ, List.set_cons_zero]
  refine wpAnyY_pure (i := 1) 61 (v := .pointer (some ⟨p.b, 0, none⟩)) rfl rfl (by kernel_rfl) (by kernel_rfl) (by kernel_rfl) (fun _ _ _ h => h) (Or.inl ⟨by rfl, by (intro W _; go_simp)⟩) ?_
  simp only [Act.put, List.setIfInBounds_toArray, List.set_cons_succ, List.set_cons_zero]
  refine wpAnyY_pure (i := 2) 62 (v := .pointer (some ⟨p.b, 19, none⟩)) rfl rfl (by kernel_rfl) (by kernel_rfl) (by kernel_rfl) (fun _ _ _ h => h) (Or.inl ⟨by rfl, by (intro W _; go_simp)⟩) ?_
  simp only [Act.put, List.setIfInBounds_toArray, List.set_cons_succ, List.set_cons_zero]
  refine wpAnyY_takeD (i := 3) 63 (v := .slice (some ⟨p.gb, 0, none⟩) R R) rfl rfl (by kernel_rfl) (by kernel_rfl) (late_of (by kernel_rfl)) (by kernel_rfl) (by kernel_rfl) (fun _ _ _ h => h) HS.out (Or.inl ⟨by rfl, by (intro W hW; obtain ⟨e0, e1, e2, e3⟩ := hW; go_simp)⟩) ?_
  simp only [Act.put, List.setIfInBounds_toArray, List.set_cons_succ, List.set_cons_zero]
  refine wpAnyY_pure (i := 4) 64 (v := .pointer (some ⟨w.heap.size, 1, none⟩)) rfl rfl (by kernel_rfl) (by kernel_rfl) (by kernel_rfl) (fun _ _ _ h => h) (Or.inl ⟨by rfl, by (intro W _; go_simp)⟩) ?_
  simp only [Act.put, List.setIfInBounds_toArray, List.set_cons_succ, List.set_cons_zero]
  refine wpAnyY_takeD (i := 5) 65 (v := .int .i64 (a : Int)) rfl rfl (by kernel_rfl) (by kernel_rfl) (late_of (by kernel_rfl)) (by kernel_rfl) (by kernel_rfl) (fun _ _ _ h => h) HS.out (Or.inl ⟨by rfl, by (intro W hW; obtain ⟨e0, e1, e2, e3⟩ := hW; go_simp)⟩) ?_
  simp only [Act.put, List.setIfInBounds_toArray, List.set_cons_succ, List.set_cons_zero]
  refine wpAnyY_pure (i := 6) 66 (v := .pointer (some ⟨p.b, 0, none⟩)) rfl rfl (by kernel_rfl) (by kernel_rfl) (by kernel_rfl) (fun _ _ _ h => h) (Or.inl ⟨by rfl, by (intro W _; go_simp)⟩) ?_
  simp only [Act.put, List.setIfInBounds_toArray, List.set_cons_succ, List.set_cons_zero]
  refine wpAnyY_pure (i := 7) 67 (v := .pointer (some ⟨w.heap.size, 2, none⟩)) rfl rfl (by kernel_rfl) (by kernel_rfl) (by kernel_rfl) (fun _ _ _ h => h) (Or.inl ⟨by rfl, by (intro W _; go_simp)⟩) ?_
  simp only [Act.put, List.setIfInBounds_toArray, List.set_cons_succ, List.set_cons_zero]
  refine wpAnyY_takeD (i := 8) 68 (v := .int .i64 (b : Int)) rfl rfl (by kernel_rfl) (by kernel_rfl) (late_of (by kernel_rfl)) (by kernel_rfl) (by kernel_rfl) (fun _ _ _ h => h) HS.out (Or.inl ⟨by rfl, by (intro W hW; obtain ⟨e0, e1, e2, e3⟩ := hW; go_simp)⟩) ?_
  simp only [Act.put, List.setIfInBounds_toArray, List.set_cons_succ, List.set_cons_zero]
  refine wpAnyY_pure (i := 9) 69 (v := .pointer (some ⟨w.heap.size, 3, none⟩)) rfl rfl (by kernel_rfl) (by kernel_rfl) (by kernel_rfl) (fun _ _ _ h => h) (Or.inl ⟨by rfl, by (intro W _; go_simp)⟩) ?_
  simp only [Act.put, List.setIfInBounds_toArray, List.set_cons_succ, List.set_cons_zero]
  refine wpAnyY_takeD (i := 10) 70 (v := .int .i64 (r : Int)) rfl rfl (by kernel_rfl) (by kernel_rfl) (late_of (by kernel_rfl)) (by kernel_rfl) (by kernel_rfl) (fun _ _ _ h => h) HS.out (Or.inl ⟨by rfl, by (intro W hW; obtain ⟨e0, e1, e2, e3⟩ := hW; go_simp)⟩) ?_
  simp only [Act.put, List.setIfInBounds_toArray, List.set_cons_succ, List.set_cons_zero]
  refine wpAnyY_pure (i := 11) 71 (v := .int .i64 (i : Int)) rfl rfl (by kernel_rfl) (by kernel_rfl) (by kernel_rfl) (fun _ _ _ h => h) (Or.inl ⟨by rfl, by (intro W _; go_simp)⟩) ?_
  simp only [Act.put, List.setIfInBounds_toArray, List.set_cons_succ, List.set_cons_zero]
  refine wpAnyY_pure (i := 12) 72 (v := .int .i64 (j : Int)) rfl rfl (by kernel_rfl) (by kernel_rfl) (by kernel_rfl) (fun _ _ _ h => h) (Or.inl ⟨by rfl, by (intro W _; go_simp)⟩) ?_
  simp only [Act.put, List.setIfInBounds_toArray, List.set_cons_succ, List.set_cons_zero]
  refine wpAnyY_one (i := 13) rfl (by kernel_rfl) (fun Kc hKc => ?_)
  refine step_fnD 73 rfl (by rfl) 37 _ _ rfl Tryz.f37 Tryz.func37 (by kernel_rfl) (by kernel_rfl) #[.pointer (some ⟨p.b, 0, none⟩), .int .i64 (b : Int), .int .i64 (r : Int), .int .i64 (i : Int), .int .i64 (j : Int)] (by simp [Act.eval]) (HLd.out _ H0.out.1.drew) ?_
  rintro e w1 ⟨rfl, hb1⟩
  refine ⟨_, rfl, hKc.out _ _ (fun _ h => ⟨cell_bl hb1 h.1, cell_bl hb1 h.2.1, cell_bl hb1 h.2.2.1, cell_bl hb1 h.2.2.2⟩) ?_⟩
  clear hKc Kc
  simp only [Act.put, List.setIfInBounds_toArray, List.set_cons_succ, List.set_cons_zero]
  unfold dcA
  have H1 : Hid (Dt w0 w1 p c s sx sy x y se M st) := H0.out.1.drew.next hb1
  have g0 := rc_has H1.out.reg Ha.out
  have g1 := rc_num H1.out.reg Ha.out
  have g2 := rc_mask H1.out.reg Ha.out
  have gf : ∀ t, _ := fun t => frozen_of_row _ _ t _ _ H1.out.reg
  have HF : Hid (Dt w0 (d3W w1 p.gb a ⟨fh, 0, fn⟩) p c s sx sy x y se { M with regs := updC M.regs a ⟨fh, 0, fn⟩ } st) := H1.out.setReg a ⟨fh, 0, fn⟩ ⟨fh, 0, fn⟩ HNz.out
  clear hb1 HS
  refine wpAnyY_pure (i := 14) 74 (v := .pointer (some ⟨p.gb, a * 3, none⟩)) rfl rfl (by kernel_rfl) (by kernel_rfl) (by kernel_rfl) (fun _ _ _ h => h) (Or.inl ⟨by rfl, by (intro W _; go_simp)⟩) ?_
  simp only [Act.put, List.setIfInBounds_toArray, List.set_cons_succ, List.set_cons_zero]
  refine wpAnyY_one (i := 15) rfl (by kernel_rfl) (fun Kc hKc => ?_)
  go_simp
  refine hKc.out _ _ (fun h => absurd h (by decide)) ?_
  clear hKc Kc
  refine wpAnyY_done (by kernel_rfl) ?_ _
  go_wp2
  go_end0
  exact ⟨rfl, _, HF.out⟩
set_option maxRecDepth 10000 in
set_option maxHeartbeats 4000000 in
theorem dstep4 (h : Dt w0 w p c s sx sy x y se M st) (i j a b r : Nat) (ha : a < c.regs.toNat) (hb : b < c.consts.length) :
    Calls Tryz.prog 18 #[.pointer (some ⟨p.b, 0, none⟩), .agg #[.int .i64 4, .int .i64 (a : Int), .int .i64 (b : Int), .int .i64 (r : Int)], .int .i64 (i : Int), .int .i64 (j : Int)] w (SpPost w0 p c s sx sy x y (actB c x y i j M (4, (a : Int), (b : Int), (r : Int))) st) := by
  have H0 : Hid (Dt w0 (w.alloc (.cells #[.int .i64 4, .int .i64 (a : Int), .int .i64 (b : Int), .int .i64 (r : Int)] 65)) p c s sx sy x y se M st ∧ (w.alloc (.cells #[.int .i64 4, .int .i64 (a : Int), .int .i64 (b : Int), .int .i64 (r : Int)] 65)).heap[w.heap.size]? = some (.cells #[.int .i64 4, .int .i64 (a : Int), .int .i64 (b : Int), .int .i64 (r : Int)] 65 (0, 0))) := ⟨h.next (below_new _), heap_alloc_new _ _⟩
  obtain ⟨R, hR⟩ : ∃ R, c.regs.toNat = R := ⟨_, rfl⟩
  have HR : Hid (c.regs.toNat = R) := hR
  obtain ⟨P, hP⟩ : ∃ P, c.planes.toNat = P := ⟨_, rfl⟩
  have HPl : Hid (c.planes.toNat = P) := hP
  rw [act4]
  simp only [Int.toNat_natCast]
  have hkn := h.cd.consts.length
  obtain ⟨kb, ko, hsk, hkc⟩ := h.cd.consts.cells (by omega)
  have HKv : Hid (w0.cell? ⟨kb, ko + b, none⟩ = some (.int .i64 (c.consts.getD b 0))) := hkc b (by omega)
  have hbi : (b : Int) < (s.k.n : Int) := by omega
  have HK7 : Hid (∀ W, Dt w0 W p c s sx sy x y se M st → W.cell? ⟨p.b, 7, none⟩ = some (.slice (some ⟨kb, ko, none⟩) s.k.n s.k.c)) := fun W hW => by rw [← hsk]; exact hW.cell 7 rfl
  obtain ⟨kv, hkv⟩ : ∃ kv, c.consts.getD b 0 = kv := ⟨_, rfl⟩
  rw [hkv] at HKv ⊢
  have Ha : Hid (a < c.regs.toNat) := ha
  have hai : (a : Int) < (R : Int) := by omega
  clear ha
  clear h hR hP hkc hsk hkn hkv
  obtain ⟨tv, htv⟩ : ∃ tv, (if (M.regs a).has = true then updC M.regs a ⟨(M.regs a).has, (M.regs a).mask, wrap64 ((M.regs a).num + kv)⟩ else M.regs) = tv := ⟨_, rfl⟩
  have HTv : Hid ((if (M.regs a).has = true then updC M.regs a ⟨(M.regs a).has, (M.regs a).mask, wrap64 ((M.regs a).num + kv)⟩ else M.regs) = tv) := htv
  rw [htv]
  clear htv
  go_enter Tryz.func18, Tryz.ntmps18
  go_upto_region 12 with (fail)
  obtain ⟨wd, hwd⟩ : ∃ wd, wd = w.alloc (.cells #[.int .i64 4, .int .i64 (a : Int), .int .i64 (b : Int), .int .i64 (r : Int)] 65) := ⟨_, rfl⟩
  rw [← hwd] at H0 ⊢
  clear hwd
  have g0 := rc_has H0.out.1.reg Ha.out
  have g1 := rc_num H0.out.1.reg Ha.out
  have g2 := rc_mask H0.out.1.reg Ha.out
  have gf : ∀ t, _ := fun t => frozen_of_row _ _ t _ _ H0.out.1.reg
  have HGh : Hid ((nzC (M.regs a)).has = (M.regs a).has ∧ ((M.regs a).has = true → (nzC (M.regs a)).num = (M.regs a).num)) := ⟨nz_has _, fun e => by rw [nz_yes e]⟩
  obtain ⟨gh, hgh⟩ : ∃ gh, (nzC (M.regs a)).has = gh := ⟨_, rfl⟩
  obtain ⟨gn, hgn⟩ : ∃ gn, (nzC (M.regs a)).num = gn := ⟨_, rfl⟩
  rw [hgh] at g0 HGh
  rw [hgn] at g1 HGh
  clear hgh hgn
  have HS : Hid ((fun W : World => W.cell? ⟨p.b, 19, none⟩ = some (.slice (some ⟨p.gb, 0, none⟩) R R) ∧ W.cell? ⟨w.heap.size, 1, none⟩ = some (.int .i64 (a : Int)) ∧ W.cell? ⟨p.gb, a * 3, none⟩ = some (.bool gh)) wd.drew) := ⟨H0.out.1.c19 HR.out, cell_block H0.out.2 1 _ rfl, g0⟩
  refine wp_region_Y (fun j => [].contains j) (fun W : World => W.cell? ⟨p.b, 19, none⟩ = some (.slice (some ⟨p.gb, 0, none⟩) R R) ∧ W.cell? ⟨w.heap.size, 1, none⟩ = some (.int .i64 (a : Int)) ∧ W.cell? ⟨p.gb, a * 3, none⟩ = some (.bool gh)) (by kernel_rfl) ?_
  refine wpAnyY_pure (i := 0) 77 (v := .pointer (some ⟨p.b, 0, none⟩)) rfl rfl (by kernel_rfl) (by kernel_rfl) (by kernel_rfl) (fun _ _ _ h => h) (Or.inl ⟨by rfl, by (intro W _; go_simp)⟩) ?_
  simp only [Act.put, List.setIfInBounds_toArray, List.set_cons_succ, List.set_cons_zero]
  refine wpAnyY_pure (i := 1) 78 (v := .pointer (some ⟨p.b, 0, none⟩)) rfl rfl (by kernel_rfl) (by kernel_rfl) (by kernel_rfl) (fun _ _ _ h => h) (Or.inl ⟨by rfl, by (intro W _; go_simp)⟩) ?_
  simp only [Act.put, List.setIfInBounds_toArray, List.set_cons_succ, List.set_cons_zero]
  refine wpAnyY_pure (i := 2) 79 (v := .pointer (some ⟨p.b, 19, none⟩)) rfl rfl (by kernel_rfl) (by kernel_rfl) (by kernel_rfl) (fun _ _ _ h => h) (Or.inl ⟨by rfl, by (intro W _; go_simp)⟩) ?_
  simp only [Act.put, List.setIfInBounds_toArray, List.set_cons_succ, List.set_cons_zero]
  refine wpAnyY_takeD (i := 3) 80 (v := .slice (some ⟨p.gb, 0, none⟩) R R) rfl rfl (by kernel_rfl) (by kernel_rfl) (late_of (by kernel_rfl)) (by kernel_rfl) (by kernel_rfl) (fun _ _ _ h => h) HS.out (Or.inl ⟨by rfl, by (intro W hW; obtain ⟨e0, e1, e2⟩ := hW; go_simp)⟩) ?_
  simp only [Act.put, List.setIfInBounds_toArray, List.set_cons_succ, List.set_cons_zero]
  refine wpAnyY_pure (i := 4) 81 (v := .pointer (some ⟨w.heap.size, 1, none⟩)) rfl rfl (by kernel_rfl) (by kernel_rfl) (by kernel_rfl) (fun _ _ _ h => h) (Or.inl ⟨by rfl, by (intro W _; go_simp)⟩) ?_
  simp only [Act.put, List.setIfInBounds_toArray, List.set_cons_succ, List.set_cons_zero]
  refine wpAnyY_takeD (i := 5) 82 (v := .int .i64 (a : Int)) rfl rfl (by kernel_rfl) (by kernel_rfl) (late_of (by kernel_rfl)) (by kernel_rfl) (by kernel_rfl) (fun _ _ _ h => h) HS.out (Or.inl ⟨by rfl, by (intro W hW; obtain ⟨e0, e1, e2⟩ := hW; go_simp)⟩) ?_
  simp only [Act.put, List.setIfInBounds_toArray, List.set_cons_succ, List.set_cons_zero]
  refine wpAnyY_pure (i := 6) 83 (v := .pointer (some ⟨p.gb, a * 3, none⟩)) rfl rfl (by kernel_rfl) (by kernel_rfl) (by kernel_rfl) (fun _ _ _ h => h) (Or.inl ⟨by rfl, by (intro W _; go_simp)⟩) ?_
  simp only [Act.put, List.setIfInBounds_toArray, List.set_cons_succ, List.set_cons_zero]
  refine wpAnyY_pure (i := 7) 84 (v := .pointer (some ⟨p.gb, a * 3, none⟩)) rfl rfl (by kernel_rfl) (by kernel_rfl) (by kernel_rfl) (fun _ _ _ h => h) (Or.inl ⟨by rfl, by (intro W _; go_simp)⟩) ?_
  simp only [Act.put, List.setIfInBounds_toArray, List.set_cons_succ, List.set_cons_zero]
  refine wpAnyY_takeD (i := 8) 85 (v := .bool gh) rfl rfl (by kernel_rfl) (by kernel_rfl) (late_of (by kernel_rfl)) (by kernel_rfl) (by kernel_rfl) (fun _ _ _ h => h) HS.out (Or.inl ⟨by rfl, by (intro W hW; obtain ⟨e0, e1, e2⟩ := hW; go_simp)⟩) ?_
  simp only [Act.put, List.setIfInBounds_toArray, List.set_cons_succ, List.set_cons_zero]
  refine wpAnyY_done (by kernel_rfl) ?_ _
  clear HS
  cases gh with
  | false =>
    have htv2 : M.regs = tv := by rw [← HTv.out, ← HGh.out.1]; rfl
    subst htv2
    have HF : Hid (Dt w0 wd.drew p c s sx sy x y se M st) := H0.out.1.drew
    clear HTv HGh
    go_wp2
    go_end0
    exact ⟨rfl, _, HF.out⟩
  | true =>
    have htv2 : updC M.regs a ⟨(M.regs a).has, (M.regs a).mask, wrap64 ((M.regs a).num + kv)⟩ = tv := by rw [← HTv.out, ← HGh.out.1]; rfl
    subst htv2
    have HF : Hid (Dt w0 (wd.drew.setCell ⟨p.gb, a * 3 + 1, none⟩ (.int .i64 (IntKind.i64.wrap (gn + kv)))).drew p c s sx sy x y se { M with regs := updC M.regs a ⟨(M.regs a).has, (M.regs a).mask, wrap64 ((M.regs a).num + kv)⟩ } st) := by
      have e := HGh.out.2 HGh.out.1.symm
      rw [wrap_is, ← e]
      exact (H0.out.1.drew.setNum a _ HGh.out.1.symm).drew
    clear HTv HGh
    go_upto_region 13 with (fail)
    have HS2 : Hid ((fun W : World => W.cell? ⟨p.b, 19, none⟩ = some (.slice (some ⟨p.gb, 0, none⟩) R R) ∧ W.cell? ⟨w.heap.size, 1, none⟩ = some (.int .i64 (a : Int)) ∧ W.cell? ⟨p.gb, a * 3 + 1, none⟩ = some (.int .i64 gn) ∧ W.cell? ⟨p.b, 7, none⟩ = some (.slice (some ⟨kb, ko, none⟩) s.k.n s.k.c) ∧ W.cell? ⟨w.heap.size, 2, none⟩ = some (.int .i64 (b : Int)) ∧ W.cell? ⟨kb, ko + b, none⟩ = some (.int .i64 kv)) wd.drew.drew) := ⟨H0.out.1.c19 HR.out, cell_block H0.out.2 1 _ rfl, g1, HK7.out _ H0.out.1.drew.drew, cell_block H0.out.2 2 _ rfl, cell_bl H0.out.1.low HKv.out⟩
    refine wp_region_Y (fun j => [27].contains j) (fun W : World => W.cell? ⟨p.b, 19, none⟩ = some (.slice (some ⟨p.gb, 0, none⟩) R R) ∧ W.cell? ⟨w.heap.size, 1, none⟩ = some (.int .i64 (a : Int)) ∧ W.cell? ⟨p.gb, a * 3 + 1, none⟩ = some (.int .i64 gn) ∧ W.cell? ⟨p.b, 7, none⟩ = some (.slice (some ⟨kb, ko, none⟩) s.k.n s.k.c) ∧ W.cell? ⟨w.heap.size, 2, none⟩ = some (.int .i64 (b : Int)) ∧ W.cell? ⟨kb, ko + b, none⟩ = some (.int .i64 kv)) (by kernel_rfl) ?_
    refine wpAnyY_pure (i := 0) 86 (v := .pointer (some ⟨p.b, 0, none⟩)) rfl rfl (by kernel_rfl) (by kernel_rfl) (by kernel_rfl) (fun _ _ _ h => h) (Or.inl ⟨by rfl, by (intro W _; go_simp)⟩) ?_
    simp only [Act.put, List.setIfInBounds_toArray, List.set_cons_succ, List.set_cons_zero]
    refine wpAnyY_pure (i := 1) 87 (v := .pointer (some ⟨p.b, 0, none⟩)) rfl rfl (by kernel_rfl) (by kernel_rfl) (by kernel_rfl) (fun _ _ _ h => h) (Or.inl ⟨by rfl, by (intro W _; go_simp)⟩) ?_
    simp only [Act.put, List.setIfInBounds_toArray, List.set_cons_succ, List.set_cons_zero]
    refine wpAnyY_pure (i := 2) 88 (v := .pointer (some ⟨p.b, 19, none⟩)) rfl rfl (by kernel_rfl) (by kernel_rfl) (by kernel_rfl) (fun _ _ _ h => h) (Or.inl ⟨by rfl, by (intro W _; go_simp)⟩) ?_
    simp only [Act.put, List.setIfInBounds_toArray, List.set_cons_succ, List.set_cons_zero]
    refine wpAnyY_takeD (i := 3) 89 (v := .slice (some ⟨p.gb, 0, none⟩) R R) rfl rfl (by kernel_rfl) (by kernel_rfl) (late_of (by kernel_rfl)) (by kernel_rfl) (by kernel_rfl) (fun _ _ _ h => h) HS2.out (Or.inl ⟨by rfl, by (intro W hW; obtain ⟨e0, e1, e2, e3, e4, e5⟩ := hW; go_simp)⟩) ?_
    simp only [Act.put, List.setIfInBounds_toArray, List.set_cons_succ, List.set_cons_zero]
    refine wpAnyY_pure (i := 4) 90 (v := .pointer (some ⟨w.heap.size, 1, none⟩)) rfl rfl (by kernel_rfl) (by kernel_rfl) (by kernel_rfl) (fun _ _ _ h => h) (Or.inl ⟨by rfl, by (intro W _; go_simp)⟩) ?_
    simp only [Act.put, List.setIfInBounds_toArray, List.set_cons_succ, List.set_cons_zero]
    refine wpAnyY_takeD (i := 5) 91 (v := .int .i64 (a : Int)) rfl rfl (by kernel_rfl) (by kernel_rfl) (late_of (by kernel_rfl)) (by kernel_rfl) (by kernel_rfl) (fun _ _ _ h => h) HS2.out (Or.inl ⟨by rfl, by (intro W hW; obtain ⟨e0, e1, e2, e3, e4, e5⟩ := hW; go_simp)⟩) ?_
    simp only [Act.put, List.setIfInBounds_toArray, List.set_cons_succ, List.set_cons_zero]
    refine wpAnyY_pure (i := 6) 92 (v := .pointer (some ⟨p.b, 0, none⟩)) rfl rfl (by kernel_rfl) (by kernel_rfl) (by kernel_rfl) (fun _ _ _ h => h) (Or.inl ⟨by rfl, by (intro W _; go_simp)⟩) ?_
    simp only [Act.put, List.setIfInBounds_toArray, List.set_cons_succ, List.set_cons_zero]
    refine wpAnyY_pure (i := 7) 93 (v := .pointer (some ⟨p.b, 0, none⟩)) rfl rfl (by kernel_rfl) (by kernel_rfl) (by kernel_rfl) (fun _ _ _ h => h) (Or.inl ⟨by rfl, by (intro W _; go_simp)⟩) ?_
    simp only [Act.put, List.setIfInBounds_toArray, List.set_cons_succ, List.set_cons_zero]
    refine wpAnyY_pure (i := 8) 94 (v := .pointer (some ⟨p.b, 19, none⟩)) rfl rfl (by kernel_rfl) (by kernel_rfl) (by kernel_rfl) (fun _ _ _ h => h) (Or.inl ⟨by rfl, by (intro W _; go_simp)⟩) ?_
    simp only [Act.put, List.setIfInBounds_toArray, List.set_cons_succ, List.set_cons_zero]
    refine wpAnyY_takeD (i := 9) 95 (v := .slice (some ⟨p.gb, 0, none⟩) R R) rfl rfl (by kernel_rfl) (by kernel_rfl) (late_of (by kernel_rfl)) (by kernel_rfl) (by kernel_rfl) (fun _ _ _ h => h) HS2.out (Or.inl ⟨by rfl, by (intro W hW; obtain ⟨e0, e1, e2, e3, e4, e5⟩ := hW; go_simp)⟩) ?_
    simp only [Act.put, List.setIfInBounds_toArray, List.set_cons_succ, List.set_cons_zero]
    refine wpAnyY_pure (i := 10) 96 (v := .pointer (some ⟨w.heap.size, 1, none⟩)) rfl rfl (by kernel_rfl) (by kernel_rfl) (by kernel_rfl) (fun _ _ _ h => h) (Or.inl ⟨by rfl, by (intro W _; go_simp)⟩) ?_
    simp only [Act.put, List.setIfInBounds_toArray, List.set_cons_succ, List.set_cons_zero]
    refine wpAnyY_takeD (i := 11) 97 (v := .int .i64 (a : Int)) rfl rfl (by kernel_rfl) (by kernel_rfl) (late_of (by kernel_rfl)) (by kernel_rfl) (by kernel_rfl) (fun _ _ _ h => h) HS2.out (Or.inl ⟨by rfl, by (intro W hW; obtain ⟨e0, e1, e2, e3, e4, e5⟩ := hW; go_simp)⟩) ?_
    simp only [Act.put, List.setIfInBounds_toArray, List.set_cons_succ, List.set_cons_zero]
    refine wpAnyY_pure (i := 12) 98 (v := .pointer (some ⟨p.gb, a * 3, none⟩)) rfl rfl (by kernel_rfl) (by kernel_rfl) (by kernel_rfl) (fun _ _ _ h => h) (Or.inl ⟨by rfl, by (intro W _; go_simp)⟩) ?_
    simp only [Act.put, List.setIfInBounds_toArray, List.set_cons_succ, List.set_cons_zero]
    refine wpAnyY_pure (i := 13) 99 (v := .pointer (some ⟨p.gb, a * 3 + 1, none⟩)) rfl rfl (by kernel_rfl) (by kernel_rfl) (by kernel_rfl) (fun _ _ _ h => h) (Or.inl ⟨by rfl, by (intro W _; go_simp)⟩) ?_
    simp only [Act.put, List.setIfInBounds_toArray, List.set_cons_succ, List.set_cons_zero]
    refine wpAnyY_takeD (i := 14) 100 (v := .int .i64 gn) rfl rfl (by kernel_rfl) (by kernel_rfl) (late_of (by kernel_rfl)) (by kernel_rfl) (by kernel_rfl) (fun _ _ _ h => h) HS2.out (Or.inl ⟨by rfl, by (intro W hW; obtain ⟨e0, e1, e2, e3, e4, e5⟩ := hW; go_simp)⟩) ?_
    simp only [Act.put, List.setIfInBounds_toArray, List.set_cons_succ, List.set_cons_zero]
    refine wpAnyY_pure (i := 15) 101 (v := .pointer (some ⟨p.b, 0, none⟩)) rfl rfl (by kernel_rfl) (by kernel_rfl) (by kernel_rfl) (fun _ _ _ h => h) (Or.inl ⟨by rfl, by (intro W _; go_simp)⟩) ?_
    simp only [Act.put, List.setIfInBounds_toArray, List.set_cons_succ, List.set_cons_zero]
    refine wpAnyY_pure (i := 16) 102 (v := .pointer (some ⟨p.b, 0, none⟩)) rfl rfl (by kernel_rfl) (by kernel_rfl) (by kernel_rfl) (fun _ _ _ h => h) (Or.inl ⟨by rfl, by (intro W _; go_simp)⟩) ?_
    simp only [Act.put, List.setIfInBounds_toArray, List.set_cons_succ, List.set_cons_zero]
    refine wpAnyY_pure (i := 17) 103 (v := .pointer (some ⟨p.b, 0, none⟩)) rfl rfl (by kernel_rfl) (by kernel_rfl) (by kernel_rfl) (fun _ _ _ h => h) (Or.inl ⟨by rfl, by (intro W _; go_simp)⟩) ?_
    simp only [Act.put, List.setIfInBounds_toArray, List.set_cons_succ, List.set_cons_zero]
    refine wpAnyY_pure (i := 18) 104 (v := .pointer (some ⟨p.b, 7, none⟩)) rfl rfl (by kernel_rfl) (by kernel_rfl) (by kernel_rfl) (fun _ _ _ h => h) (Or.inl ⟨by rfl, by (intro W _; go_simp)⟩) ?_
    simp only [Act.put, List.setIfInBounds_toArray, List.set_cons_succ, List.set_cons_zero]
    refine wpAnyY_takeD (i := 19) 105 (v := .slice (some ⟨kb, ko, none⟩) s.k.n s.k.c) rfl rfl (by kernel_rfl) (by kernel_rfl) (late_of (by kernel_rfl)) (by kernel_rfl) (by kernel_rfl) (fun _ _ _ h => h) HS2.out (Or.inl ⟨by rfl, by (intro W hW; obtain ⟨e0, e1, e2, e3, e4, e5⟩ := hW; go_simp)⟩) ?_
    simp only [Act.put, List.setIfInBounds_toArray, List.set_cons_succ, List.set_cons_zero]
    refine wpAnyY_pure (i := 20) 106 (v := .pointer (some ⟨w.heap.size, 2, none⟩)) rfl rfl (by kernel_rfl) (by kernel_rfl) (by kernel_rfl) (fun _ _ _ h => h) (Or.inl ⟨by rfl, by (intro W _; go_simp)⟩) ?_
    simp only [Act.put, List.setIfInBounds_toArray, List.set_cons_succ, List.set_cons_zero]
    refine wpAnyY_takeD (i := 21) 107 (v := .int .i64 (b : Int)) rfl rfl (by kernel_rfl) (by kernel_rfl) (late_of (by kernel_rfl)) (by kernel_rfl) (by kernel_rfl) (fun _ _ _ h => h) HS2.out (Or.inl ⟨by rfl, by (intro W hW; obtain ⟨e0, e1, e2, e3, e4, e5⟩ := hW; go_simp)⟩) ?_
    simp only [Act.put, List.setIfInBounds_toArray, List.set_cons_succ, List.set_cons_zero]
    refine wpAnyY_pure (i := 22) 108 (v := .pointer (some ⟨kb, ko + b, none⟩)) rfl rfl (by kernel_rfl) (by kernel_rfl) (by kernel_rfl) (fun _ _ _ h => h) (Or.inl ⟨by rfl, by (intro W _; go_simp)⟩) ?_
    simp only [Act.put, List.setIfInBounds_toArray, List.set_cons_succ, List.set_cons_zero]
    refine wpAnyY_takeD (i := 23) 109 (v := .int .i64 kv) rfl rfl (by kernel_rfl) (by kernel_rfl) (late_of (by kernel_rfl)) (by kernel_rfl) (by kernel_rfl) (fun _ _ _ h => h) HS2.out (Or.inl ⟨by rfl, by (intro W hW; obtain ⟨e0, e1, e2, e3, e4, e5⟩ := hW; go_simp)⟩) ?_
    simp only [Act.put, List.setIfInBounds_toArray, List.set_cons_succ, List.set_cons_zero]
    refine wpAnyY_pure (i := 24) 110 (v := .int .i64 (IntKind.i64.wrap (gn + kv))) rfl rfl (by kernel_rfl) (by kernel_rfl) (by kernel_rfl) (fun _ _ _ h => h) (Or.inl ⟨by rfl, by (intro W _; go_simp)⟩) ?_
    simp only [Act.put, List.setIfInBounds_toArray, List.set_cons_succ, List.set_cons_zero]
    refine wpAnyY_pure (i := 25) 111 (v := .pointer (some ⟨p.gb, a * 3, none⟩)) rfl rfl (by kernel_rfl) (by kernel_rfl) (by kernel_rfl) (fun _ _ _ h => h) (Or.inl ⟨by rfl, by (intro W _; go_simp)⟩) ?_
    simp only [Act.put, List.setIfInBounds_toArray, List.set_cons_succ, List.set_cons_zero]
    refine wpAnyY_pure (i := 26) 112 (v := .pointer (some ⟨p.gb, a * 3 + 1, none⟩)) rfl rfl (by kernel_rfl) (by kernel_rfl) (by kernel_rfl) (fun _ _ _ h => h) (Or.inl ⟨by rfl, by (intro W _; go_simp)⟩) ?_
    simp only [Act.put, List.setIfInBounds_toArray, List.set_cons_succ, List.set_cons_zero]
    refine wpAnyY_one (i := 27) rfl (by kernel_rfl) (fun Kc hKc => ?_)
    go_simp
    refine hKc.out _ _ (fun h => absurd h (by decide)) ?_
    clear hKc Kc
    refine wpAnyY_done (by kernel_rfl) ?_ _
    go_wp2
    go_end0
    exact ⟨rfl, _, HF.out⟩
end

end Go.Proofs.YtnkfibahkmmnpaaGreat
namespace Go.Proofs.YtnkfibahkmmnpaaGreat
open Go.RowKit

theorem nz_met (A B : Ct) (r : Int) : metC (nzC A) (nzC B) r = nzC (metC A B r) := by
  cases hB : B.has with
  | false =>
    have e1 : metC A B r = A := by unfold metC; rw [if_pos hB]
    have e2 : metC (nzC A) (nzC B) r = nzC A := by unfold metC; rw [if_pos (by rw [nz_has]; exact hB)]
    rw [e1, e2]
  | true =>
    rw [nz_yes hB]
    have hb : ¬ B.has = false := by rw [hB]; decide
    cases hA : A.has with
    | false =>
      have e1 : metC A B r = ⟨true, bitB r, B.num⟩ := by unfold metC; rw [if_neg hb, if_pos (by rw [hA]; rfl)]
      have e2 : metC (nzC A) B r = ⟨true, bitB r, B.num⟩ := by unfold metC; rw [if_neg hb, if_pos (by rw [nz_has, hA]; rfl)]
      rw [e1, e2, nz_yes rfl]
    | true =>
      rw [nz_yes hA]
      have : (metC A B r).has = true := by
        unfold metC
        rw [if_neg hb]
        split
        · rfl
        split
        · exact hA
        · exact hA
      rw [nz_yes this]
theorem nz_ok {A : Ct} (h : okN A) : okN (nzC A) := by
  unfold nzC
  split
  · exact h
  · exact ok_ct0
section
variable {w0 w : World} {p : Dp} {c : Cd} {s : Ls} {sx sy se : Sl} {x y : List Int} {M : Ms} {st : Int}
set_option maxRecDepth 10000 in
set_option maxHeartbeats 4000000 in
theorem dstep6 (h : Dt w0 w p c s sx sy x y se M st) (i j a b r : Nat) (hok : MOk M) (ha : a < c.regs.toNat) (hb : b < c.regs.toNat) (hr : r < 16) :
    Calls Tryz.prog 18 #[.pointer (some ⟨p.b, 0, none⟩), .agg #[.int .i64 6, .int .i64 (a : Int), .int .i64 (b : Int), .int .i64 (r : Int)], .int .i64 (i : Int), .int .i64 (j : Int)] w (SpPost w0 p c s sx sy x y (actB c x y i j M (6, (a : Int), (b : Int), (r : Int))) st) := by
  have H0 : Hid (Dt w0 (w.alloc (.cells #[.int .i64 6, .int .i64 (a : Int), .int .i64 (b : Int), .int .i64 (r : Int)] 65)) p c s sx sy x y se M st ∧ (w.alloc (.cells #[.int .i64 6, .int .i64 (a : Int), .int .i64 (b : Int), .int .i64 (r : Int)] 65)).heap[w.heap.size]? = some (.cells #[.int .i64 6, .int .i64 (a : Int), .int .i64 (b : Int), .int .i64 (r : Int)] 65 (0, 0))) := ⟨h.next (below_new _), heap_alloc_new _ _⟩
  obtain ⟨R, hR⟩ : ∃ R, c.regs.toNat = R := ⟨_, rfl⟩
  have HR : Hid (c.regs.toNat = R) := hR
  obtain ⟨P, hP⟩ : ∃ P, c.planes.toNat = P := ⟨_, rfl⟩
  have HPl : Hid (c.planes.toNat = P) := hP
  rw [act6]
  simp only [Int.toNat_natCast]
  have Ha : Hid (a < c.regs.toNat) := ha
  have hai : (a : Int) < (R : Int) := by omega
  clear ha
  have Hb : Hid (b < c.regs.toNat) := hb
  have hbi : (b : Int) < (R : Int) := by omega
  clear hb
  have HV0 := nz_met (M.regs a) (M.regs b) (r : Int)
  have hoka := nz_ok (hok.regs a)
  clear h hR hP hok
  go_enter Tryz.func18, Tryz.ntmps18
  go_upto_region 20 with (fail)
  obtain ⟨wd, hwd⟩ : ∃ wd, wd = w.alloc (.cells #[.int .i64 6, .int .i64 (a : Int), .int .i64 (b : Int), .int .i64 (r : Int)] 65) := ⟨_, rfl⟩
  rw [← hwd] at H0 ⊢
  clear hwd
  have g0 := rc_has H0.out.1.reg Ha.out
  have g1 := rc_num H0.out.1.reg Ha.out
  have g2 := rc_mask H0.out.1.reg Ha.out
  have gf : ∀ t, _ := fun t => frozen_of_row _ _ t _ _ H0.out.1.reg
  have k0 := rc_has H0.out.1.reg Hb.out
  have k1 := rc_num H0.out.1.reg Hb.out
  have k2 := rc_mask H0.out.1.reg Hb.out
  have kf : ∀ t, _ := fun t => frozen_of_row _ _ t _ _ H0.out.1.reg
  obtain ⟨A, hA⟩ : ∃ A, nzC (M.regs a) = A := ⟨_, rfl⟩
  obtain ⟨B, hB⟩ : ∃ B, nzC (M.regs b) = B := ⟨_, rfl⟩
  rw [hA] at g0 g1 g2 HV0 hoka
  rw [hB] at k0 k1 k2 HV0
  have HMe0 : ∀ W, Calls Tryz.prog 38 #[.agg #[.bool A.has, .int .i64 A.num, .int .i64 A.mask], .agg #[.bool B.has, .int .i64 B.num, .int .i64 B.mask], .int .i64 (r : Int)] W fun e w' => e = .returned (.agg (dcA (metC A B r))) ∧ Below W.heap.size W w' := fun W => dmeets_calls A B r hr hoka W
  obtain ⟨V, hV⟩ : ∃ V, metC A B r = V := ⟨_, rfl⟩
  rw [hV] at HMe0 HV0
  have HV : Hid (nzC (metC (M.regs a) (M.regs b) r) = V) := HV0.symm
  clear hA hB hV HV0 hoka hr
  obtain ⟨Ah, Am, An⟩ := A
  obtain ⟨Bh, Bm, Bn⟩ := B
  simp only at g0 g1 g2 k0 k1 k2 HMe0
  have HMe : Hid (∀ W, Calls _ _ _ _ _) := HMe0
  clear HMe0
  have HS : Hid ((fun W : World => W.cell? ⟨p.b, 19, none⟩ = some (.slice (some ⟨p.gb, 0, none⟩) R R) ∧ W.cell? ⟨w.heap.size, 1, none⟩ = some (.int .i64 (a : Int)) ∧ W.cell? ⟨p.gb, a * 3, none⟩ = some (.bool Ah) ∧ W.cell? ⟨p.gb, a * 3 + 1, none⟩ = some (.int .i64 An) ∧ W.cell? ⟨p.gb, a * 3 + 2, none⟩ = some (.int .i64 Am) ∧ W.cell? ⟨w.heap.size, 2, none⟩ = some (.int .i64 (b : Int)) ∧ W.cell? ⟨p.gb, b * 3, none⟩ = some (.bool Bh) ∧ W.cell? ⟨p.gb, b * 3 + 1, none⟩ = some (.int .i64 Bn) ∧ W.cell? ⟨p.gb, b * 3 + 2, none⟩ = some (.int .i64 Bm) ∧ W.cell? ⟨w.heap.size, 3, none⟩ = some (.int .i64 (r : Int))) wd.drew) := ⟨H0.out.1.c19 HR.out, cell_block H0.out.2 1 _ rfl, g0, g1, g2, cell_block H0.out.2 2 _ rfl, k0, k1, k2, cell_block H0.out.2 3 _ rfl⟩
  refine wp_region_Y (fun j => [26].contains j) (fun W : World => W.cell? ⟨p.b, 19, none⟩ = some (.slice (some ⟨p.gb, 0, none⟩) R R) ∧ W.cell? ⟨w.heap.size, 1, none⟩ = some (.int .i64 (a : Int)) ∧ W.cell? ⟨p.gb, a * 3, none⟩ = some (.bool Ah) ∧ W.cell? ⟨p.gb, a * 3 + 1, none⟩ = some (.int .i64 An) ∧ W.cell? ⟨p.gb, a * 3 + 2, none⟩ = some (.int .i64 Am) ∧ W.cell? ⟨w.heap.size, 2, none⟩ = some (.int .i64 (b : Int)) ∧ W.cell? ⟨p.gb, b * 3, none⟩ = some (.bool Bh) ∧ W.cell? ⟨p.gb, b * 3 + 1, none⟩ = some (.int .i64 Bn) ∧ W.cell? ⟨p.gb, b * 3 + 2, none⟩ = some (.int .i64 Bm) ∧ W.cell? ⟨w.heap.size, 3, none⟩ = some (.int .i64 (r : Int))) (by kernel_rfl) ?_
  refine wpAnyY_pure (i := 0) 188 (v := .pointer (some ⟨p.b, 0, none⟩)) rfl rfl (by kernel_rfl) (by kernel_rfl) (by kernel_rfl) (fun _ _ _ h => h) (Or.inl ⟨by rfl, by (intro W _; go_simp)⟩) ?_
  simp only [Act.put, List.setIfInBounds_toArray, List.set_cons_succ, List.set_cons_zero]
  refine wpAnyY_pure (i := 1) 189 (v := .pointer (some ⟨p.b, 0, none⟩)) rfl rfl (by kernel_rfl) (by kernel_rfl) (by kernel_rfl) (fun _ _ _ h => h) (Or.inl ⟨by rfl, by (intro W _; go_simp)⟩) ?_
  simp only [Act.put, List.setIfInBounds_toArray, List.set_cons_succ, List.set_cons_zero]
  refine wpAnyY_pure (i := 2) 190 (v := .pointer (some ⟨p.b, 19, none⟩)) rfl rfl (by kernel_rfl) (by kernel_rfl) (by kernel_rfl) (fun _ _ _ h => h) (Or.inl ⟨by rfl, by (intro W _; go_simp)⟩) ?_
  simp only [Act.put, List.setIfInBounds_toArray, List.set_cons_succ, List.set_cons_zero]
  refine wpAnyY_takeD (i := 3) 191 (v := .slice (some ⟨p.gb, 0, none⟩) R R) rfl rfl (by kernel_rfl) (by kernel_rfl) (late_of (by kernel_rfl)) (by kernel_rfl) (by kernel_rfl) (fun _ _ _ h => h) HS.out (Or.inl ⟨by rfl, by (intro W hW; obtain ⟨e0, e1, e2, e3, e4, e5, e6, e7, e8, e9⟩ := hW; go_simp)⟩) ?_
  simp only [Act.put, List.setIfInBounds_toArray, List.set_cons_succ, List.set_cons_zero]
  refine wpAnyY_pure (i := 4) 192 (v := .pointer (some ⟨w.heap.size, 1, none⟩)) rfl rfl (by kernel_rfl) (by kernel_rfl) (by kernel_rfl) (fun _ _ _ h => h) (Or.inl ⟨by rfl, by (intro W _; go_simp)⟩) ?_
  simp only [Act.put, List.setIfInBounds_toArray, List.set_cons_succ, List.set_cons_zero]
  refine wpAnyY_takeD (i := 5) 193 (v := .int .i64 (a : Int)) rfl rfl (by kernel_rfl) (by kernel_rfl) (late_of (by kernel_rfl)) (by kernel_rfl) (by kernel_rfl) (fun _ _ _ h => h) HS.out (Or.inl ⟨by rfl, by (intro W hW; obtain ⟨e0, e1, e2, e3, e4, e5, e6, e7, e8, e9⟩ := hW; go_simp)⟩) ?_
  simp only [Act.put, List.setIfInBounds_toArray, List.set_cons_succ, List.set_cons_zero]
  refine wpAnyY_pure (i := 6) 194 (v := .pointer (some ⟨p.b, 0, none⟩)) rfl rfl (by kernel_rfl) (by kernel_rfl) (by kernel_rfl) (fun _ _ _ h => h) (Or.inl ⟨by rfl, by (intro W _; go_simp)⟩) ?_
  simp only [Act.put, List.setIfInBounds_toArray, List.set_cons_succ, List.set_cons_zero]
  refine wpAnyY_pure (i := 7) 195 (v := .pointer (some ⟨p.b, 0, none⟩)) rfl rfl (by kernel_rfl) (by kernel_rfl) (by kernel_rfl) (fun _ _ _ h => h) (Or.inl ⟨by rfl, by (intro W _; go_simp)⟩) ?_
  simp only [Act.put, List.setIfInBounds_toArray, List.set_cons_succ, List.set_cons_zero]
  refine wpAnyY_pure (i := 8) 196 (v := .pointer (some ⟨p.b, 19, none⟩)) rfl rfl (by kernel_rfl) (by kernel_rfl) (by kernel_rfl) (fun _ _ _ h => h) (Or.inl ⟨by rfl, by (intro W _; go_simp)⟩) ?_
  simp only [Act.put, List.setIfInBounds_toArray, List.set_cons_succ, List.set_cons_zero]
  refine wpAnyY_takeD (i := 9) 197 (v := .slice (some ⟨p.gb, 0, none⟩) R R) rfl rfl (by kernel_rfl) (by kernel_rfl) (late_of (by kernel_rfl)) (by kernel_rfl) (by kernel_rfl) (fun _ _ _ h => h) HS.out (Or.inl ⟨by rfl, by (intro W hW; obtain ⟨e0, e1, e2, e3, e4, e5, e6, e7, e8, e9⟩ := hW; go_simp)⟩) ?_
  simp only [Act.put, List.setIfInBounds_toArray, List.set_cons_succ, List.set_cons_zero]
  refine wpAnyY_pure (i := 10) 198 (v := .pointer (some ⟨w.heap.size, 1, none⟩)) rfl rfl (by kernel_rfl) (by kernel_rfl) (by kernel_rfl) (fun _ _ _ h => h) (Or.inl ⟨by rfl, by (intro W _; go_simp)⟩) ?_
  simp only [Act.put, List.setIfInBounds_toArray, List.set_cons_succ, List.set_cons_zero]
  refine wpAnyY_takeD (i := 11) 199 (v := .int .i64 (a : Int)) rfl rfl (by kernel_rfl) (by kernel_rfl) (late_of (by kernel_rfl)) (by kernel_rfl) (by kernel_rfl) (fun _ _ _ h => h) HS.out (Or.inl ⟨by rfl, by (intro W hW; obtain ⟨e0, e1, e2, e3, e4, e5, e6, e7, e8, e9⟩ := hW; go_simp)⟩) ?_
  simp only [Act.put, List.setIfInBounds_toArray, List.set_cons_succ, List.set_cons_zero]
  refine wpAnyY_pure (i := 12) 200 (v := .pointer (some ⟨p.gb, a * 3, none⟩)) rfl rfl (by kernel_rfl) (by kernel_rfl) (by kernel_rfl) (fun _ _ _ h => h) (Or.inl ⟨by rfl, by (intro W _; go_simp)⟩) ?_
  simp only [Act.put, List.setIfInBounds_toArray, List.set_cons_succ, List.set_cons_zero]
  refine wpAnyY_takeD (i := 13) 201 (v := .agg #[.bool Ah, .int .i64 An, .int .i64 Am]) rfl rfl (by kernel_rfl) (by kernel_rfl) (late_of (by kernel_rfl)) (by kernel_rfl) (by kernel_rfl) (fun _ _ _ h => h) HS.out (Or.inl ⟨by rfl, by (intro W hW; obtain ⟨e0, e1, e2, e3, e4, e5, e6, e7, e8, e9⟩ := hW; go_simp)⟩) ?_
  simp only [Act.put, List.setIfInBounds_toArray, List.set_cons_succ, List.set_cons_zero]
  refine wpAnyY_pure (i := 14) 202 (v := .pointer (some ⟨p.b, 0, none⟩)) rfl rfl (by kernel_rfl) (by kernel_rfl) (by kernel_rfl) (fun _ _ _ h => h) (Or.inl ⟨by rfl, by (intro W _; go_simp)⟩) ?_
  simp only [Act.put, List.setIfInBounds_toArray, List.set_cons_succ, List.set_cons_zero]
  refine wpAnyY_pure (i := 15) 203 (v := .pointer (some ⟨p.b, 0, none⟩)) rfl rfl (by kernel_rfl) (by kernel_rfl) (by kernel_rfl) (fun _ _ _ h => h) (Or.inl ⟨by rfl, by (intro W _; go_simp)⟩) ?_
  simp only [Act.put, List.setIfInBounds_toArray, List.set_cons_succ, List.set_cons_zero]
  refine wpAnyY_pure (i := 16) 204 (v := .pointer (some ⟨p.b, 19, none⟩)) rfl rfl (by kernel_rfl) (by kernel_rfl) (by kernel_rfl) (fun _ _ _ h => h) (Or.inl ⟨by rfl, by (intro W _; go_simp)⟩) ?_
  simp only [Act.put, List.setIfInBounds_toArray, List.set_cons_succ, List.set_cons_zero]
  refine wpAnyY_takeD (i := 17) 205 (v := .slice (some ⟨p.gb, 0, none⟩) R R) rfl rfl (by kernel_rfl) (by kernel_rfl) (late_of (by kernel_rfl)) (by kernel_rfl) (by kernel_rfl) (fun _ _ _ h => h) HS.out (Or.inl ⟨by rfl, by (intro W hW; obtain ⟨e0, e1, e2, e3, e4, e5, e6, e7, e8, e9⟩ := hW; go_simp)⟩) ?_
  simp only [Act.put, List.setIfInBounds_toArray, List.set_cons_succ, List.set_cons_zero]
  refine wpAnyY_pure (i := 18) 206 (v := .pointer (some ⟨w.heap.size, 2, none⟩)) rfl rfl (by kernel_rfl) (by kernel_rfl) (by kernel_rfl) (fun _ _ _ h => h) (Or.inl ⟨by rfl, by (intro W _; go_simp)⟩) ?_
  simp only [Act.put, List.setIfInBounds_toArray, List.set_cons_succ, List.set_cons_zero]
  refine wpAnyY_takeD (i := 19) 207 (v := .int .i64 (b : Int)) rfl rfl (by kernel_rfl) (by kernel_rfl) (late_of (by kernel_rfl)) (by kernel_rfl) (by kernel_rfl) (fun _ _ _ h => h) HS.out (Or.inl ⟨by rfl, by (intro W hW; obtain ⟨e0, e1, e2, e3, e4, e5, e6, e7, e8, e9⟩ := hW; go_simp)⟩) ?_
  simp only [Act.put, List.setIfInBounds_toArray, List.set_cons_succ, List.set_cons_zero]
  refine wpAnyY_pure (i := 20) 208 (v := .pointer (some ⟨p.gb, b * 3, none⟩)) rfl rfl (by kernel_rfl) (by kernel_rfl) (by kernel_rfl) (fun _ _ _ h => h) (Or.inl ⟨by rfl, by (intro W _; go_simp)⟩) ?_
  simp only [Act.put, List.setIfInBounds_toArray, List.set_cons_succ, List.set_cons_zero]
  refine wpAnyY_takeD (i := 21) 209 (v := .agg #[.bool Bh, .int .i64 Bn, .int .i64 Bm]) rfl rfl (by kernel_rfl) (by kernel_rfl) (late_of (by kernel_rfl)) (by kernel_rfl) (by kernel_rfl) (fun _ _ _ h => h) HS.out (Or.inl ⟨by rfl, by (intro W hW; obtain ⟨e0, e1, e2, e3, e4, e5, e6, e7, e8, e9⟩ := hW; go_simp)⟩) ?_
  simp only [Act.put, List.setIfInBounds_toArray, List.set_cons_succ, List.set_cons_zero]
  refine wpAnyY_pure (i := 22) 210 (v := .pointer (some ⟨w.heap.size, 3, none⟩)) rfl rfl (by kernel_rfl) (by kernel_rfl) (by kernel_rfl) (fun _ _ _ h => h) (Or.inl ⟨by rfl, by (intro W _; go_simp)⟩) ?_
  simp only [Act.put, List.setIfInBounds_toArray, List.set_cons_succ, List.set_cons_zero]
  refine wpAnyY_takeD (i := 23) 211 (v := .int .i64 (r : Int)) rfl rfl (by kernel_rfl) (by kernel_rfl) (late_of (by kernel_rfl)) (by kernel_rfl) (by kernel_rfl) (fun _ _ _ h => h) HS.out (Or.inl ⟨by rfl, by (intro W hW; obtain ⟨e0, e1, e2, e3, e4, e5, e6, e7, e8, e9⟩ := hW; go_simp)⟩) ?_
  simp only [Act.put, List.setIfInBounds_toArray, List.set_cons_succ, List.set_cons_zero]
  refine wpAnyY_one (i := 24) rfl (by kernel_rfl) (fun Kc hKc => ?_)
  refine step_fnD 212 rfl (by rfl) 38 _ _ rfl Tryz.f38 Tryz.func38 (by kernel_rfl) (by kernel_rfl) #[.agg #[.bool Ah, .int .i64 An, .int .i64 Am], .agg #[.bool Bh, .int .i64 Bn, .int .i64 Bm], .int .i64 (r : Int)] (by simp [Act.eval]) (HMe.out _) ?_
  rintro e w1 ⟨rfl, hb1⟩
  refine ⟨_, rfl, hKc.out _ _ (fun _ h => ⟨cell_bl hb1 h.1, cell_bl hb1 h.2.1, cell_bl hb1 h.2.2.1, cell_bl hb1 h.2.2.2.1, cell_bl hb1 h.2.2.2.2.1, cell_bl hb1 h.2.2.2.2.2.1, cell_bl hb1 h.2.2.2.2.2.2.1, cell_bl hb1 h.2.2.2.2.2.2.2.1, cell_bl hb1 h.2.2.2.2.2.2.2.2.1, cell_bl hb1 h.2.2.2.2.2.2.2.2.2⟩) ?_⟩
  clear hKc Kc
  simp only [Act.put, List.setIfInBounds_toArray, List.set_cons_succ, List.set_cons_zero]
  have H1 : Hid (Dt w0 w1 p c s sx sy x y se M st) := H0.out.1.drew.next hb1
  clear g0 g1 g2 gf k0 k1 k2 kf hb1 HS
  have g0 := rc_has H1.out.reg Ha.out
  have g1 := rc_num H1.out.reg Ha.out
  have g2 := rc_mask H1.out.reg Ha.out
  have gf : ∀ t, _ := fun t => frozen_of_row _ _ t _ _ H1.out.reg
  have HF : Hid (Dt w0 (d3W w1 p.gb a V) p c s sx sy x y se { M with regs := updC M.regs a (metC (M.regs a) (M.regs b) r) } st) := H1.out.setReg a _ V HV.out
  obtain ⟨vh, vm, vn⟩ := V
  unfold dcA
  refine wpAnyY_pure (i := 25) 213 (v := .pointer (some ⟨p.gb, a * 3, none⟩)) rfl rfl (by kernel_rfl) (by kernel_rfl) (by kernel_rfl) (fun _ _ _ h => h) (Or.inl ⟨by rfl, by (intro W _; go_simp)⟩) ?_
  simp only [Act.put, List.setIfInBounds_toArray, List.set_cons_succ, List.set_cons_zero]
  refine wpAnyY_one (i := 26) rfl (by kernel_rfl) (fun Kc hKc => ?_)
  go_simp
  refine hKc.out _ _ (fun h => absurd h (by decide)) ?_
  clear hKc Kc
  refine wpAnyY_done (by kernel_rfl) ?_ _
  go_wp2
  go_end0
  exact ⟨rfl, _, HF.out⟩
set_option maxRecDepth 10000 in
set_option maxHeartbeats 4000000 in
theorem dstep7 (h : Dt w0 w p c s sx sy x y se M st) (i j a b r : Nat) (hxy : (x.length + 1) * (y.length + 1) ≤ 1048576) (ha : a < c.planes.toNat) (hb : b < c.regs.toNat) (hi : i ≤ x.length) (hj : j ≤ y.length) :
    Calls Tryz.prog 18 #[.pointer (some ⟨p.b, 0, none⟩), .agg #[.int .i64 7, .int .i64 (a : Int), .int .i64 (b : Int), .int .i64 (r : Int)], .int .i64 (i : Int), .int .i64 (j : Int)] w (SpPost w0 p c s sx sy x y (actB c x y i j M (7, (a : Int), (b : Int), (r : Int))) st) := by
  have H0 : Hid (Dt w0 (w.alloc (.cells #[.int .i64 7, .int .i64 (a : Int), .int .i64 (b : Int), .int .i64 (r : Int)] 65)) p c s sx sy x y se M st ∧ (w.alloc (.cells #[.int .i64 7, .int .i64 (a : Int), .int .i64 (b : Int), .int .i64 (r : Int)] 65)).heap[w.heap.size]? = some (.cells #[.int .i64 7, .int .i64 (a : Int), .int .i64 (b : Int), .int .i64 (r : Int)] 65 (0, 0))) := ⟨h.next (below_new _), heap_alloc_new _ _⟩
  obtain ⟨R, hR⟩ : ∃ R, c.regs.toNat = R := ⟨_, rfl⟩
  have HR : Hid (c.regs.toNat = R) := hR
  obtain ⟨P, hP⟩ : ∃ P, c.planes.toNat = P := ⟨_, rfl⟩
  have HPl : Hid (c.planes.toNat = P) := hP
  rw [act7]
  simp only [Int.toNat_natCast]
  have hpl : placeB c.planes.toNat y.length a i j = (i * (y.length + 1) + j) * c.planes.toNat + a := rfl
  rw [hpl]
  have HPc : Hid (∀ W, Dt w0 W p c s sx sy x y se M st → Calls Tryz.prog 39 #[.pointer (some ⟨p.b, 0, none⟩), .int .i64 (i : Int), .int .i64 (j : Int)] W fun e w' => e = .returned (.int .i64 ((i * (y.length + 1) + j : Nat) : Int)) ∧ W = w') := fun W hW => dplace_calls hW i j hi hj hxy
  have hat := at_lt hi hj
  have HO0 : ∀ W, Dt w0 W p c s sx sy x y se M st → W.cell? ⟨p.ob, a, none⟩ = some (.slice (some ⟨p.rb a, 0, none⟩) ((x.length + 1) * (y.length + 1)) ((x.length + 1) * (y.length + 1))) := fun W hW => hW.orow ha
  have HRw0 : ∀ W, Dt w0 W p c s sx sy x y se M st → ∃ f, W.heap[p.rb a]? = some (.cells (dlC f ((x.length + 1) * (y.length + 1))) 103 (0, 0)) := fun W hW => ⟨_, hW.row a ha⟩
  have HKp0 : ∀ W (v : Ct), Dt w0 W p c s sx sy x y se M st → ∀ k, Dt w0 (d3W W (p.rb a) k v) p c s sx sy x y se { M with slots := updC M.slots (k * c.planes.toNat + a) v } st := fun W v hW k => hW.keep ha k v
  have hai : (a : Int) < (P : Int) := by omega
  have Hb : Hid (b < c.regs.toNat) := hb
  have hbi : (b : Int) < (R : Int) := by omega
  clear hb
  obtain ⟨n, hn⟩ : ∃ n, (x.length + 1) * (y.length + 1) = n := ⟨_, rfl⟩
  obtain ⟨at1, hat1⟩ : ∃ t, i * (y.length + 1) + j = t := ⟨_, rfl⟩
  obtain ⟨rbq, hrbq⟩ : ∃ t, p.rb a = t := ⟨_, rfl⟩
  rw [hn, hat1] at hat
  rw [hat1] at HPc ⊢
  rw [hn, hrbq] at HO0 HRw0
  rw [hrbq] at HKp0
  have hati : (at1 : Int) < (n : Int) := by omega
  have HAt : Hid (at1 < n) := hat
  have HO : Hid (∀ W, Dt w0 W p c s sx sy x y se M st → W.cell? ⟨p.ob, a, none⟩ = some (.slice (some ⟨rbq, 0, none⟩) n n)) := HO0
  have HRw : Hid (∀ W, Dt w0 W p c s sx sy x y se M st → ∃ f, W.heap[rbq]? = some (.cells (dlC f n) 103 (0, 0))) := HRw0
  have HKp : Hid (∀ W (v : Ct), Dt w0 W p c s sx sy x y se M st → ∀ k, Dt w0 (d3W W rbq k v) p c s sx sy x y se { M with slots := updC M.slots (k * c.planes.toNat + a) v } st) := HKp0
  clear h hR hP hxy ha hi hj hpl hn hat1 hrbq hat HO0 HRw0 HKp0
  go_enter Tryz.func18, Tryz.ntmps18
  go_wp2_with fail
  refine (HPc.out _ H0.out.1).mono ?_
  rintro e w1 ⟨rfl, rfl⟩
  clear HPc
  go_upto_region 23 with (fail)
  obtain ⟨wd, hwd⟩ : ∃ wd, wd = w.alloc (.cells #[.int .i64 7, .int .i64 (a : Int), .int .i64 (b : Int), .int .i64 (r : Int)] 65) := ⟨_, rfl⟩
  rw [← hwd] at H0 ⊢
  clear hwd
  have k0 := rc_has H0.out.1.reg Hb.out
  have k1 := rc_num H0.out.1.reg Hb.out
  have k2 := rc_mask H0.out.1.reg Hb.out
  have kf : ∀ t, _ := fun t => frozen_of_row _ _ t _ _ H0.out.1.reg
  obtain ⟨fr, hfr⟩ := HRw.out _ H0.out.1
  have r0 := rc_has hfr HAt.out
  have r1 := rc_num hfr HAt.out
  have r2 := rc_mask hfr HAt.out
  have rf : ∀ t, _ := fun t => frozen_of_row _ _ t _ _ hfr
  obtain ⟨B, hB⟩ : ∃ B, nzC (M.regs b) = B := ⟨_, rfl⟩
  rw [hB] at k0 k1 k2 ⊢
  have HF : Hid (Dt w0 (d3W wd rbq at1 B).drew p c s sx sy x y se { M with slots := updC M.slots (at1 * c.planes.toNat + a) B } st) := (HKp.out _ B H0.out.1 at1).drew
  clear hB hfr HRw HKp HAt
  obtain ⟨Bh, Bm, Bn⟩ := B
  simp only at k0 k1 k2
  have HS : Hid ((fun W : World => W.cell? ⟨p.b, 12, none⟩ = some (.slice (some ⟨p.ob, 0, none⟩) P p.oc) ∧ W.cell? ⟨w.heap.size, 1, none⟩ = some (.int .i64 (a : Int)) ∧ W.cell? ⟨p.ob, a, none⟩ = some (.slice (some ⟨rbq, 0, none⟩) n n) ∧ W.cell? ⟨p.b, 19, none⟩ = some (.slice (some ⟨p.gb, 0, none⟩) R R) ∧ W.cell? ⟨w.heap.size, 2, none⟩ = some (.int .i64 (b : Int)) ∧ W.cell? ⟨p.gb, b * 3, none⟩ = some (.bool Bh) ∧ W.cell? ⟨p.gb, b * 3 + 1, none⟩ = some (.int .i64 Bn) ∧ W.cell? ⟨p.gb, b * 3 + 2, none⟩ = some (.int .i64 Bm)) wd.drew) := ⟨H0.out.1.c12 HPl.out, cell_block H0.out.2 1 _ rfl, HO.out _ H0.out.1.drew, H0.out.1.c19 HR.out, cell_block H0.out.2 2 _ rfl, k0, k1, k2⟩
  refine wp_region_Y (fun j => [18].contains j) (fun W : World => W.cell? ⟨p.b, 12, none⟩ = some (.slice (some ⟨p.ob, 0, none⟩) P p.oc) ∧ W.cell? ⟨w.heap.size, 1, none⟩ = some (.int .i64 (a : Int)) ∧ W.cell? ⟨p.ob, a, none⟩ = some (.slice (some ⟨rbq, 0, none⟩) n n) ∧ W.cell? ⟨p.b, 19, none⟩ = some (.slice (some ⟨p.gb, 0, none⟩) R R) ∧ W.cell? ⟨w.heap.size, 2, none⟩ = some (.int .i64 (b : Int)) ∧ W.cell? ⟨p.gb, b * 3, none⟩ = some (.bool Bh) ∧ W.cell? ⟨p.gb, b * 3 + 1, none⟩ = some (.int .i64 Bn) ∧ W.cell? ⟨p.gb, b * 3 + 2, none⟩ = some (.int .i64 Bm)) (by kernel_rfl) ?_
  refine wpAnyY_pure (i := 0) 220 (v := .pointer (some ⟨p.b, 0, none⟩)) rfl rfl (by kernel_rfl) (by kernel_rfl) (by kernel_rfl) (fun _ _ _ h => h) (Or.inl ⟨by rfl, by (intro W _; go_simp)⟩) ?_
  simp only [Act.put, List.setIfInBounds_toArray, List.set_cons_succ, List.set_cons_zero]
  refine wpAnyY_pure (i := 1) 221 (v := .pointer (some ⟨p.b, 0, none⟩)) rfl rfl (by kernel_rfl) (by kernel_rfl) (by kernel_rfl) (fun _ _ _ h => h) (Or.inl ⟨by rfl, by (intro W _; go_simp)⟩) ?_
  simp only [Act.put, List.setIfInBounds_toArray, List.set_cons_succ, List.set_cons_zero]
  refine wpAnyY_pure (i := 2) 222 (v := .pointer (some ⟨p.b, 12, none⟩)) rfl rfl (by kernel_rfl) (by kernel_rfl) (by kernel_rfl) (fun _ _ _ h => h) (Or.inl ⟨by rfl, by (intro W _; go_simp)⟩) ?_
  simp only [Act.put, List.setIfInBounds_toArray, List.set_cons_succ, List.set_cons_zero]
  refine wpAnyY_takeD (i := 3) 223 (v := .slice (some ⟨p.ob, 0, none⟩) P p.oc) rfl rfl (by kernel_rfl) (by kernel_rfl) (late_of (by kernel_rfl)) (by kernel_rfl) (by kernel_rfl) (fun _ _ _ h => h) HS.out (Or.inl ⟨by rfl, by (intro W hW; obtain ⟨e0, e1, e2, e3, e4, e5, e6, e7⟩ := hW; go_simp)⟩) ?_
  simp only [Act.put, List.setIfInBounds_toArray, List.set_cons_succ, List.set_cons_zero]
  refine wpAnyY_pure (i := 4) 224 (v := .pointer (some ⟨w.heap.size, 1, none⟩)) rfl rfl (by kernel_rfl) (by kernel_rfl) (by kernel_rfl) (fun _ _ _ h => h) (Or.inl ⟨by rfl, by (intro W _; go_simp)⟩) ?_
  simp only [Act.put, List.setIfInBounds_toArray, List.set_cons_succ, List.set_cons_zero]
  refine wpAnyY_takeD (i := 5) 225 (v := .int .i64 (a : Int)) rfl rfl (by kernel_rfl) (by kernel_rfl) (late_of (by kernel_rfl)) (by kernel_rfl) (by kernel_rfl) (fun _ _ _ h => h) HS.out (Or.inl ⟨by rfl, by (intro W hW; obtain ⟨e0, e1, e2, e3, e4, e5, e6, e7⟩ := hW; go_simp)⟩) ?_
  simp only [Act.put, List.setIfInBounds_toArray, List.set_cons_succ, List.set_cons_zero]
  refine wpAnyY_pure (i := 6) 226 (v := .pointer (some ⟨p.ob, a, none⟩)) rfl rfl (by kernel_rfl) (by kernel_rfl) (by kernel_rfl) (fun _ _ _ h => h) (Or.inl ⟨by rfl, by (intro W _; go_simp)⟩) ?_
  simp only [Act.put, List.setIfInBounds_toArray, List.set_cons_succ, List.set_cons_zero]
  refine wpAnyY_takeD (i := 7) 227 (v := .slice (some ⟨rbq, 0, none⟩) n n) rfl rfl (by kernel_rfl) (by kernel_rfl) (late_of (by kernel_rfl)) (by kernel_rfl) (by kernel_rfl) (fun _ _ _ h => h) HS.out (Or.inl ⟨by rfl, by (intro W hW; obtain ⟨e0, e1, e2, e3, e4, e5, e6, e7⟩ := hW; go_simp)⟩) ?_
  simp only [Act.put, List.setIfInBounds_toArray, List.set_cons_succ, List.set_cons_zero]
  refine wpAnyY_pure (i := 8) 228 (v := .int .i64 (at1 : Int)) rfl rfl (by kernel_rfl) (by kernel_rfl) (by kernel_rfl) (fun _ _ _ h => h) (Or.inl ⟨by rfl, by (intro W _; go_simp)⟩) ?_
  simp only [Act.put, List.setIfInBounds_toArray, List.set_cons_succ, List.set_cons_zero]
  refine wpAnyY_pure (i := 9) 229 (v := .pointer (some ⟨p.b, 0, none⟩)) rfl rfl (by kernel_rfl) (by kernel_rfl) (by kernel_rfl) (fun _ _ _ h => h) (Or.inl ⟨by rfl, by (intro W _; go_simp)⟩) ?_
  simp only [Act.put, List.setIfInBounds_toArray, List.set_cons_succ, List.set_cons_zero]
  refine wpAnyY_pure (i := 10) 230 (v := .pointer (some ⟨p.b, 0, none⟩)) rfl rfl (by kernel_rfl) (by kernel_rfl) (by kernel_rfl) (fun _ _ _ h => h) (Or.inl ⟨by rfl, by (intro W _; go_simp)⟩) ?_
  simp only [Act.put, List.setIfInBounds_toArray, List.set_cons_succ, List.set_cons_zero]
  refine wpAnyY_pure (i := 11) 231 (v := .pointer (some ⟨p.b, 19, none⟩)) rfl rfl (by kernel_rfl) (by kernel_rfl) (by kernel_rfl) (fun _ _ _ h => h) (Or.inl ⟨by rfl, by (intro W _; go_simp)⟩) ?_
  simp only [Act.put, List.setIfInBounds_toArray, List.set_cons_succ, List.set_cons_zero]
  refine wpAnyY_takeD (i := 12) 232 (v := .slice (some ⟨p.gb, 0, none⟩) R R) rfl rfl (by kernel_rfl) (by kernel_rfl) (late_of (by kernel_rfl)) (by kernel_rfl) (by kernel_rfl) (fun _ _ _ h => h) HS.out (Or.inl ⟨by rfl, by (intro W hW; obtain ⟨e0, e1, e2, e3, e4, e5, e6, e7⟩ := hW; go_simp)⟩) ?_
  simp only [Act.put, List.setIfInBounds_toArray, List.set_cons_succ, List.set_cons_zero]
  refine wpAnyY_pure (i := 13) 233 (v := .pointer (some ⟨w.heap.size, 2, none⟩)) rfl rfl (by kernel_rfl) (by kernel_rfl) (by kernel_rfl) (fun _ _ _ h => h) (Or.inl ⟨by rfl, by (intro W _; go_simp)⟩) ?_
  simp only [Act.put, List.setIfInBounds_toArray, List.set_cons_succ, List.set_cons_zero]
  refine wpAnyY_takeD (i := 14) 234 (v := .int .i64 (b : Int)) rfl rfl (by kernel_rfl) (by kernel_rfl) (late_of (by kernel_rfl)) (by kernel_rfl) (by kernel_rfl) (fun _ _ _ h => h) HS.out (Or.inl ⟨by rfl, by (intro W hW; obtain ⟨e0, e1, e2, e3, e4, e5, e6, e7⟩ := hW; go_simp)⟩) ?_
  simp only [Act.put, List.setIfInBounds_toArray, List.set_cons_succ, List.set_cons_zero]
  refine wpAnyY_pure (i := 15) 235 (v := .pointer (some ⟨p.gb, b * 3, none⟩)) rfl rfl (by kernel_rfl) (by kernel_rfl) (by kernel_rfl) (fun _ _ _ h => h) (Or.inl ⟨by rfl, by (intro W _; go_simp)⟩) ?_
  simp only [Act.put, List.setIfInBounds_toArray, List.set_cons_succ, List.set_cons_zero]
  refine wpAnyY_takeD (i := 16) 236 (v := .agg #[.bool Bh, .int .i64 Bn, .int .i64 Bm]) rfl rfl (by kernel_rfl) (by kernel_rfl) (late_of (by kernel_rfl)) (by kernel_rfl) (by kernel_rfl) (fun _ _ _ h => h) HS.out (Or.inl ⟨by rfl, by (intro W hW; obtain ⟨e0, e1, e2, e3, e4, e5, e6, e7⟩ := hW; go_simp)⟩) ?_
  simp only [Act.put, List.setIfInBounds_toArray, List.set_cons_succ, List.set_cons_zero]
  refine wpAnyY_pure (i := 17) 237 (v := .pointer (some ⟨rbq, at1 * 3, none⟩)) rfl rfl (by kernel_rfl) (by kernel_rfl) (by kernel_rfl) (fun _ _ _ h => h) (Or.inl ⟨by rfl, by (intro W _; go_simp)⟩) ?_
  simp only [Act.put, List.setIfInBounds_toArray, List.set_cons_succ, List.set_cons_zero]
  refine wpAnyY_one (i := 18) rfl (by kernel_rfl) (fun Kc hKc => ?_)
  go_simp
  refine hKc.out _ _ (fun h => absurd h (by decide)) ?_
  clear hKc Kc
  refine wpAnyY_done (by kernel_rfl) ?_ _
  go_wp2
  go_end0
  exact ⟨rfl, _, HF.out⟩
end

end Go.Proofs.YtnkfibahkmmnpaaGreat
