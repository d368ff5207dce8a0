/-
  The walk of the document's Run..
-/
import Derived.Test.YtnkfibahkmmnpaaGreatVdK
import Derived.Test.YtnkfibahkmmnpaaGreatKu
namespace Go.Proofs.YtnkfibahkmmnpaaGreat
open Go.RowKit

def DRunPost (c : Cd) (s : Ls) (sx sy : Sl) (x y : List Int) (w : World) (e : Ending) (w' : World) : Prop :=
  Below w.heap.size w w' ∧ ∃ r, e = .returned (.tuple #[r, .int .i64 (refB (chkB c).2 c x y)]) ∧ (refB (chkB c).2 c x y ≠ 0 → r = .pointer none) ∧
    (refB (chkB c).2 c x y = 0 → ∃ w1 p se, r = .pointer (some ⟨p.b, 0, none⟩) ∧ Below w.heap.size w w1 ∧ Dt w1 w' p c s sx sy x y se (runM c x y) (runM c x y).steps ∧ Nrm c x.length y.length (runM c x y) ∧ w1.heap.size ≤ p.ob)
theorem drun_no {c : Cd} {s : Ls} {sx sy : Sl} {x y : List Int} {w w' : World} {z : Int} (hz : refB (chkB c).2 c x y = z) (h0 : z ≠ 0) (hb : Below w.heap.size w w') : DRunPost c s sx sy x y w (.returned (.tuple #[.pointer none, .int .i64 z])) w' :=
  ⟨hb, .pointer none, by rw [hz], fun _ => rfl, fun h => absurd (hz.symm.trans h) h0⟩
theorem dm_start {w0 : World} {c : Cd} {s : Ls} {sx sy : Sl} {R : Nat} (n : Nat) (hR : c.regs = (R : Int)) :
    Dm w0 (((w0.alloc (.cells (dlC (fun _ => ct0) R) 103)).alloc (.cells #[.int .i64 c.letters, .int .i64 c.planes, .int .i64 (R : Int), .int .i64 c.lo, .int .i64 c.hi, .int .i64 c.most, .slice s.t.a s.t.n s.t.c, .slice s.k.a s.k.n s.k.c, .slice s.i.a s.i.n s.i.c, .slice s.r.a s.r.n s.r.c, .slice sx.a sx.n sx.c, .slice sy.a sy.n sy.c, .slice none 0 0, .bool false, .int .i64 0, .int .i64 0, .int .i64 0, .slice none 0 0, .int .i64 0, .slice (some ⟨w0.heap.size, 0, none⟩) R R] 61)).drew) (w0.heap.size + 1) w0.heap.size c s sx sy R n [] (.slice none 0 0) := by
  have e : (w0.alloc (.cells (dlC (fun _ => ct0) R) 103)).heap.size = w0.heap.size + 1 := by simp
  refine ⟨?_, ⟨rfl, Or.inl ⟨rfl, rfl⟩⟩, fun r hr => (List.not_mem_nil hr).elim, List.nodup_nil, ?_, ((below_new _).trans ((below_new _).mono (by rw [e]; omega))).drew, by omega, by omega⟩
  · show ((w0.alloc _).alloc _).heap[w0.heap.size + 1]? = _
    rw [← e, heap_alloc_new]
    unfold tmCells
    rw [hR]
  · show ((w0.alloc _).alloc _).heap[w0.heap.size]? = _
    rw [(below_new _).block _ (by rw [e]; omega)]
    exact heap_alloc_new _ _
theorem Dm.grown {w0 w wa : World} {b gb : Nat} {c : Cd} {s : Ls} {sx sy : Sl} {R n : Nat} {rbs : List Nat} {v : Value} (h : Dm w0 w b gb c s sx sy R n rbs v) (hg : w.grownBy wa v.ownBlock) : wa.heap[b]? = some (.cells (tmCells c s sx sy v gb R) 61 (0, 0)) := by
  rw [hg.block _ (lt_block h.box) (own_ty h.own h.box (by decide))]
  exact h.box
theorem let_all {L : Int} {l : List Int} (h : letB L l = true) : ∀ k, k < l.length → 0 ≤ l.getD k 0 ∧ l.getD k 0 < L := by
  intro k hk
  have h2 := List.all_eq_true.1 h (l.getD k 0) (by rw [List.getD_eq_getElem?_getD, List.getElem?_eq_getElem hk]; exact List.getElem_mem _)
  simp only [Bool.not_eq_true', Bool.or_eq_false_iff, decide_eq_false_iff_not] at h2
  omega
theorem runs_in {c : Cd} {X Y i j : Nat} (hi : i ≤ X) (hj : j ≤ Y) : runsB c X Y (i : Int) (j : Int) = inBd c i j := by
  unfold runsB inBd
  rw [decide_eq_true (show (0 : Int) ≤ i by omega), decide_eq_true (show (0 : Int) ≤ j by omega), decide_eq_true (show (i : Int) ≤ X by omega), decide_eq_true (show (j : Int) ≤ Y by omega)]
  simp
structure Rk (c : Cd) (x y : List Int) (i j : Nat) (M : Ms) (t : Nat) : Prop where
  nrm : Nrm c x.length y.length M
  st : M.steps = (t : Int)
  le : t ≤ 1000 * (i * (y.length + 1) + j)
section
variable {w0 w : World} {p : Dp} {c : Cd} {s : Ls} {sx sy se : Sl} {x y : List Int} {M : Ms} {st : Int} {i j t : Nat}
theorem Rk.start : Rk c x y 0 0 (runK c x y 0) 0 := ⟨Nrm.start c _ _, rfl, by omega⟩
theorem idx_le {X Y n : Nat} (hi : i ≤ X) (hj : j ≤ Y) (hn : (X + 1) * (Y + 1) = n) : i * (Y + 1) + j + 1 ≤ n := by
  have := Nat.mul_le_mul_right (Y + 1) hi
  have e : (X + 1) * (Y + 1) = X * (Y + 1) + (Y + 1) := by rw [Nat.add_mul, Nat.one_mul]
  omega
theorem Rk.small (h : Rk c x y i j M t) (hi : i ≤ x.length) (hj : j ≤ y.length) (hn : (x.length + 1) * (y.length + 1) ≤ 1048576) : t ≤ 1048576000 := by
  have := idx_le hi hj rfl
  have := h.le
  omega
theorem Rk.cell (hg : Gk c) (h : Rk c x y i j M t) (hi : i ≤ x.length) (hj : j ≤ y.length) (hn : (x.length + 1) * (y.length + 1) ≤ 1048576) (hb : inBd c i j = true) : Rk c x y i (j + 1) (cellM c x y i j M) (t + c.cell.length) := by
  have hc := hg.rt.clen
  have hs := h.small hi hj hn
  refine ⟨h.nrm.cell hg hj hb, ?_, by have := h.le; omega⟩
  show wrap64 ((c.cell.foldl (actB c x y i j) M).steps + (c.cell.length : Int)) = _
  rw [acts_steps, h.st]
  unfold wrap64
  omega
theorem Rk.skip (h : Rk c x y i j M t) : Rk c x y i (j + 1) M t := ⟨h.nrm, h.st, by have := h.le; omega⟩
theorem Rk.row (h : Rk c x y i (y.length + 1) M t) : Rk c x y (i + 1) 0 M t := ⟨h.nrm, h.st, by have := h.le; rw [Nat.add_mul]; omega⟩
theorem Dt.stepW (h : Dt w0 w p c s sx sy x y se M st) (st2 : Int) : Dt w0 (w.setCell ⟨p.b, 18, none⟩ (.int .i64 st2)) p c s sx sy x y se M st2 :=
  h.boxW (e := M.ends) (by rw [heap_setCell_same _ _ _ _ _ _ h.box]; rfl) (fun k _ hne => Below.heap_setCell _ _ _ _ hne) (h.ends.of fun eb he => Below.heap_setCell _ _ _ _ (ty_ne he h.box (by decide))) (h.low.setCell (p := ⟨p.b, 18, none⟩) h.le.1 _)
theorem Dt.stepsM (h : Dt w0 w p c s sx sy x y se M st) (z : Int) : Dt w0 w p c s sx sy x y se { M with steps := z } st := ⟨h.box, h.out, h.oq, h.row, h.reg, h.ends, h.inj, h.rg, h.cd, h.hx, h.hy, h.low, h.le⟩
theorem row_yes (hb : inBd c i j = true) (e : rowK c x y i j (runK c x y i) = M) : rowK c x y i (j + 1) (runK c x y i) = cellM c x y i j M := by rw [rowK_succ, if_pos hb, e]
theorem row_no (hb : inBd c i j = false) (e : rowK c x y i j (runK c x y i) = M) : rowK c x y i (j + 1) (runK c x y i) = M := by rw [rowK_succ, hb, e]; rfl
theorem acts_snoc {k : Nat} {q : Qd} (hq : c.cell[k]? = some q) : (c.cell.take (k + 1)).foldl (actB c x y i j) M = actB c x y i j ((c.cell.take k).foldl (actB c x y i j) M) q := by
  rw [List.take_add_one, hq, List.foldl_append]; rfl
/-- The cell is run: the table, and what keeps. -/
theorem cell_yes (hg : Gk c) (hi : i ≤ x.length) (hj : j ≤ y.length) (hn : (x.length + 1) * (y.length + 1) ≤ 1048576) (hb : inBd c i j = true) (e : rowK c x y i j (runK c x y i) = M) (h : Rk c x y i j M t) (hD : Dt w0 w p c s sx sy x y se ((c.cell.take c.cell.length).foldl (actB c x y i j) M) ((t + c.cell.length : Nat) : Int)) :
    Dt w0 w p c s sx sy x y se (rowK c x y i (j + 1) (runK c x y i)) ((t + c.cell.length : Nat) : Int) ∧ Rk c x y i (j + 1) (rowK c x y i (j + 1) (runK c x y i)) (t + c.cell.length) := by
  rw [row_yes hb e]
  rw [List.take_length] at hD
  exact ⟨hD.stepsM _, h.cell hg hi hj hn hb⟩
theorem cell_no (hb : inBd c i j = false) (e : rowK c x y i j (runK c x y i) = M) (h : Rk c x y i j M t) (hD : Dt w0 w p c s sx sy x y se M (t : Int)) :
    Dt w0 w p c s sx sy x y se (rowK c x y i (j + 1) (runK c x y i)) (t : Int) ∧ Rk c x y i (j + 1) (rowK c x y i (j + 1) (runK c x y i)) t := by
  rw [row_no hb e]
  exact ⟨hD, h.skip⟩
end
set_option maxRecDepth 10000 in
set_option maxHeartbeats 8000000 in
theorem drun_calls (c : Cd) (s : Ls) (sx sy : Sl) (x y : List Int) (w : World) (h : CdAt w c s) (hx : IntsAt w sx.a sx.n x) (hy : IntsAt w sy.a sy.n y) :
    Calls Tryz.prog 7 #[.agg (cdCells c s), .slice sx.a sx.n sx.c, .slice sy.a sy.n sy.c] w (DRunPost c s sx sy x y w) := by
  have HC : Hid (CdAt w c s ∧ IntsAt w sx.a sx.n x ∧ IntsAt w sy.a sy.n y) := ⟨h, hx, hy⟩
  have hxs := hx.short
  have hys := hy.short
  have hxn := hx.length
  have hyn := hy.length
  unfold maxLen at hxs hys
  clear h hx hy
  obtain ⟨xa, xn, xc⟩ := sx
  obtain ⟨ya, yn, yc⟩ := sy
  simp only at hxs hys hxn hyn
  have HXY : Hid (x.length = xn ∧ y.length = yn) := ⟨hxn, hyn⟩
  have H0 : Hid (Bo w (w.alloc (.cells (cdCells c s) 26)) (cdCells c s)) := ⟨below_new _, heap_alloc_new _ _⟩
  rw [show cdCells c s = #[.int .i64 c.letters, .int .i64 c.planes, .int .i64 c.regs, .int .i64 c.lo, .int .i64 c.hi, .int .i64 c.most, .slice s.t.a s.t.n s.t.c, .slice s.k.a s.k.n s.k.c, .slice s.i.a s.i.n s.i.c, .slice s.r.a s.r.n s.r.c] from rfl] at H0 ⊢
  clear hxn hyn
  go_enter Tryz.func7, Tryz.ntmps7
  go_wp2_with fail
  refine (dcheck_calls c s _ (HC.out.1.below H0.out.low)).mono ?_
  rintro e w2 ⟨rfl, hb2⟩
  have H1 : Hid (Bo w w2 #[.int .i64 c.letters, .int .i64 c.planes, .int .i64 c.regs, .int .i64 c.lo, .int .i64 c.hi, .int .i64 c.most, .slice s.t.a s.t.n s.t.c, .slice s.k.a s.k.n s.k.c, .slice s.i.a s.i.n s.i.c, .slice s.r.a s.r.n s.r.c]) := H0.out.next hb2
  clear hb2 H0
  obtain ⟨er, her⟩ : ∃ er, (chkB c).2 = er := ⟨_, rfl⟩
  obtain ⟨at1, hat⟩ : ∃ a, (chkB c).1 = a := ⟨_, rfl⟩
  have HEr : Hid ((chkB c).2 = er) := her
  rw [her, hat]
  clear her hat
  have c0 := H1.out.cell 0 (v := .int .i64 c.letters) rfl
  have c1 := H1.out.cell 1 (v := .int .i64 c.planes) rfl
  have c2 := H1.out.cell 2 (v := .int .i64 c.regs) rfl
  have c3 := H1.out.cell 3 (v := .int .i64 c.lo) rfl
  have c4 := H1.out.cell 4 (v := .int .i64 c.hi) rfl
  have c5 := H1.out.cell 5 (v := .int .i64 c.most) rfl
  have c6 := H1.out.cell 6 (v := .slice s.t.a s.t.n s.t.c) rfl
  have c7 := H1.out.cell 7 (v := .slice s.k.a s.k.n s.k.c) rfl
  have c8 := H1.out.cell 8 (v := .slice s.i.a s.i.n s.i.c) rfl
  have c9 := H1.out.cell 9 (v := .slice s.r.a s.r.n s.r.c) rfl
  have HRe : Hid (∀ z, refB er c x y = z → z ≠ 0 → ∀ W, Below w.heap.size w W → DRunPost c s ⟨xa, xn, xc⟩ ⟨ya, yn, yc⟩ x y w (.returned (.tuple #[.pointer none, .int .i64 z])) W) := fun z hz h0 W hW => drun_no (by rw [HEr.out]; exact hz) h0 hW
  by_cases h0 : er = 0
  rotate_left
  · have hd : (er != 0) = true := by simp [h0]
    have HF := HRe.out er (by unfold refB; rw [if_pos h0]) h0 _ H1.out.low
    have HFh : Hid (DRunPost _ _ _ _ _ _ _ _ _) := HF
    clear HF h0 HRe
    go_wp2
    go_ret2
    exact HFh.out
  subst h0
  have HG : Hid (Gk c) := gk_of HEr.out
  have hm0 := HG.out.rt.most.1
  have hm1 := HG.out.rt.most.2
  have HRf : Hid (refB 0 c x y = if c.most < (x.length : Int) ∨ c.most < (y.length : Int) then 170 else if letB c.letters x = false ∨ letB c.letters y = false then 11 else if (1048576 : Int) < ((x.length : Int) + 1) * ((y.length : Int) + 1) then 131 else 0) := by show _ = _; unfold refB; rw [if_neg (by decide)]
  have HFin : Hid (Below w.heap.size w w2) := H1.out.low
  by_cases hx1 : c.most < (xn : Int)
  · have d1 : decide (c.most < (xn : Int)) = true := by simpa using hx1
    have HFh : Hid (DRunPost _ _ _ _ _ _ _ _ _) := HRe.out 170 (by rw [HRf.out, if_pos (Or.inl (by rw [HXY.out.1]; exact hx1))]) (by decide) _ HFin.out
    clear HRe HRf hx1
    go_wp2
    go_ret2
    exact HFh.out
  have d1 : decide (c.most < (xn : Int)) = false := by simpa using hx1
  by_cases hy1 : c.most < (yn : Int)
  · have d2 : decide (c.most < (yn : Int)) = true := by simpa using hy1
    have HFh : Hid (DRunPost _ _ _ _ _ _ _ _ _) := HRe.out 170 (by rw [HRf.out, if_pos (Or.inr (by rw [HXY.out.2]; exact hy1))]) (by decide) _ HFin.out
    clear HRe HRf hy1
    go_wp2
    go_ret2
    exact HFh.out
  have d2 : decide (c.most < (yn : Int)) = false := by simpa using hy1
  have HM1 : Hid (¬ (c.most < (x.length : Int) ∨ c.most < (y.length : Int))) := by show ¬ _; rw [HXY.out.1, HXY.out.2]; omega
  go_wp2_with fail
  refine (dnums_calls c.letters xa xn xc x _ (HC.out.2.1.below H1.out.low)).mono ?_
  rintro e w3 ⟨rfl, rfl⟩
  go_wp2_with fail
  refine (dnums_calls c.letters ya yn yc y _ (HC.out.2.2.below H1.out.low)).mono ?_
  rintro e w3 ⟨rfl, rfl⟩
  obtain ⟨l1, hl1⟩ : ∃ b, letB c.letters x = b := ⟨_, rfl⟩
  obtain ⟨l2, hl2⟩ : ∃ b, letB c.letters y = b := ⟨_, rfl⟩
  have HLt : Hid (letB c.letters x = l1 ∧ letB c.letters y = l2) := ⟨hl1, hl2⟩
  rw [hl1, hl2]
  clear hl1 hl2
  cases l1 with
  | false =>
    have HFh : Hid (DRunPost _ _ _ _ _ _ _ _ _) := HRe.out 11 (by rw [HRf.out, if_neg HM1.out, if_pos (Or.inl HLt.out.1)]) (by decide) _ HFin.out
    clear HRe HRf
    go_wp2
    go_ret2
    exact HFh.out
  | true =>
  cases l2 with
  | false =>
    have HFh : Hid (DRunPost _ _ _ _ _ _ _ _ _) := HRe.out 11 (by rw [HRf.out, if_neg HM1.out, if_pos (Or.inr HLt.out.2)]) (by decide) _ HFin.out
    clear HRe HRf
    go_wp2
    go_ret2
    exact HFh.out
  | true =>
  have hxm : (xn : Int) ≤ 65536 := by omega
  have hym : (yn : Int) ≤ 65536 := by omega
  obtain ⟨N, hN⟩ : ∃ N : Int, ((xn : Int) + 1) * ((yn : Int) + 1) = N := ⟨_, rfl⟩
  have hN1 : 0 ≤ N ∧ N ≤ 65537 * 65537 := by
    rw [← hN]
    exact ⟨Int.mul_nonneg (by omega) (by omega), Int.mul_le_mul (by omega) (by omega) (by omega) (by omega)⟩
  have hN2 := hN1.1
  have hN3 : N ≤ 4295098369 := hN1.2
  clear hN1
  by_cases hc1 : (1048576 : Int) < N
  · have d3 : decide ((1048576 : Int) < N) = true := by simpa using hc1
    have HFh : Hid (DRunPost _ _ _ _ _ _ _ _ _) := HRe.out 131 (by rw [HRf.out, if_neg HM1.out, if_neg (by rw [HLt.out.1, HLt.out.2]; decide), if_pos (by rw [HXY.out.1, HXY.out.2, hN]; exact hc1)]) (by decide) _ HFin.out
    clear HRe HRf hc1 hx1 hy1
    go_wp2
    go_ret2
    exact HFh.out
  have d3 : decide ((1048576 : Int) < N) = false := by simpa using hc1
  have HR0 : Hid (refB (chkB c).2 c x y = 0) := by
    show _ = _
    rw [HEr.out, HRf.out, if_neg HM1.out, if_neg (by rw [HLt.out.1, HLt.out.2]; decide), if_neg (by rw [HXY.out.1, HXY.out.2, hN]; exact hc1)]
  have HR0e : Hid (refB 0 c x y = 0) := by have h := HR0.out; rw [HEr.out] at h; exact h
  obtain ⟨R, hR⟩ : ∃ R : Nat, c.regs = R := ⟨c.regs.toNat, by have := HG.out.rt.regs; omega⟩
  have hR16 : R ≤ 16 := by have := HG.out.rt.regs; omega
  have HRR : Hid (c.regs = (R : Int)) := hR
  have hmr := make_cells R (by omega)
  have H2 : Hid (Bo w w2 #[.int .i64 c.letters, .int .i64 c.planes, .int .i64 c.regs, .int .i64 c.lo, .int .i64 c.hi, .int .i64 c.most, .slice s.t.a s.t.n s.t.c, .slice s.k.a s.k.n s.k.c, .slice s.i.a s.i.n s.i.c, .slice s.r.a s.r.n s.r.c]) := H1.out
  clear HRe HRf hx1 hy1 hc1 H1 HM1 hm0 hm1
  go_upto_region 12 with (fail)
  obtain ⟨wd, hwd⟩ : ∃ wd, wd = w2 := ⟨_, rfl⟩
  rw [← hwd] at H2 HFin ⊢
  clear hwd c0 c1 c2 c3 c4 c5 c6 c7 c8 c9
  have HS : Hid ((fun W : World => W.cell? ⟨w.heap.size, 0, none⟩ = some (.int .i64 c.letters) ∧ W.cell? ⟨w.heap.size, 1, none⟩ = some (.int .i64 c.planes) ∧ W.cell? ⟨w.heap.size, 2, none⟩ = some (.int .i64 (R : Int)) ∧ W.cell? ⟨w.heap.size, 3, none⟩ = some (.int .i64 c.lo) ∧ W.cell? ⟨w.heap.size, 4, none⟩ = some (.int .i64 c.hi) ∧ W.cell? ⟨w.heap.size, 5, none⟩ = some (.int .i64 c.most) ∧ W.cell? ⟨w.heap.size, 6, none⟩ = some (.slice s.t.a s.t.n s.t.c) ∧ W.cell? ⟨w.heap.size, 7, none⟩ = some (.slice s.k.a s.k.n s.k.c) ∧ W.cell? ⟨w.heap.size, 8, none⟩ = some (.slice s.i.a s.i.n s.i.c) ∧ W.cell? ⟨w.heap.size, 9, none⟩ = some (.slice s.r.a s.r.n s.r.c)) wd.drew) := ⟨H2.out.cell 0 rfl, H2.out.cell 1 rfl, H2.out.cell 2 (by rw [hR]; rfl), H2.out.cell 3 rfl, H2.out.cell 4 rfl, H2.out.cell 5 rfl, H2.out.cell 6 rfl, H2.out.cell 7 rfl, H2.out.cell 8 rfl, H2.out.cell 9 rfl⟩
  refine wp_region_Y (fun j => [].contains j) (fun W : World => W.cell? ⟨w.heap.size, 0, none⟩ = some (.int .i64 c.letters) ∧ W.cell? ⟨w.heap.size, 1, none⟩ = some (.int .i64 c.planes) ∧ W.cell? ⟨w.heap.size, 2, none⟩ = some (.int .i64 (R : Int)) ∧ W.cell? ⟨w.heap.size, 3, none⟩ = some (.int .i64 c.lo) ∧ W.cell? ⟨w.heap.size, 4, none⟩ = some (.int .i64 c.hi) ∧ W.cell? ⟨w.heap.size, 5, none⟩ = some (.int .i64 c.most) ∧ W.cell? ⟨w.heap.size, 6, none⟩ = some (.slice s.t.a s.t.n s.t.c) ∧ W.cell? ⟨w.heap.size, 7, none⟩ = some (.slice s.k.a s.k.n s.k.c) ∧ W.cell? ⟨w.heap.size, 8, none⟩ = some (.slice s.i.a s.i.n s.i.c) ∧ W.cell? ⟨w.heap.size, 9, none⟩ = some (.slice s.r.a s.r.n s.r.c)) (by kernel_rfl) ?_
  refine wpAnyY_takeD (i := 0) 60 (v := .agg #[.int .i64 c.letters, .int .i64 c.planes, .int .i64 (R : Int), .int .i64 c.lo, .int .i64 c.hi, .int .i64 c.most, .slice s.t.a s.t.n s.t.c, .slice s.k.a s.k.n s.k.c, .slice s.i.a s.i.n s.i.c, .slice s.r.a s.r.n s.r.c]) rfl rfl (by kernel_rfl) (by kernel_rfl) (late_of (by kernel_rfl)) (by kernel_rfl) (by kernel_rfl) (fun _ _ _ h => h) HS.out (Or.inl ⟨by rfl, by (intro W hW; obtain ⟨e0, e1, e2, e3, e4, e5, e6, e7, e8, e9⟩ := hW; go_simp)⟩) ?_
  simp only [Act.put, List.setIfInBounds_toArray, List.set_cons_succ, List.set_cons_zero]
  refine wpAnyY_pure (i := 1) 61 (v := .slice xa xn xc) rfl rfl (by kernel_rfl) (by kernel_rfl) (by kernel_rfl) (fun _ _ _ h => h) (Or.inl ⟨by rfl, by (intro W _; go_simp)⟩) ?_
  simp only [Act.put, List.setIfInBounds_toArray, List.set_cons_succ, List.set_cons_zero]
  refine wpAnyY_pure (i := 2) 62 (v := .slice ya yn yc) rfl rfl (by kernel_rfl) (by kernel_rfl) (by kernel_rfl) (fun _ _ _ h => h) (Or.inl ⟨by rfl, by (intro W _; go_simp)⟩) ?_
  simp only [Act.put, List.setIfInBounds_toArray, List.set_cons_succ, List.set_cons_zero]
  refine wpAnyY_pure (i := 3) 63 (v := .pointer (some ⟨w.heap.size, 2, none⟩)) rfl rfl (by kernel_rfl) (by kernel_rfl) (by kernel_rfl) (fun _ _ _ h => h) (Or.inl ⟨by rfl, by (intro W _; go_simp)⟩) ?_
  simp only [Act.put, List.setIfInBounds_toArray, List.set_cons_succ, List.set_cons_zero]
  refine wpAnyY_takeD (i := 4) 64 (v := .int .i64 (R : Int)) rfl rfl (by kernel_rfl) (by kernel_rfl) (late_of (by kernel_rfl)) (by kernel_rfl) (by kernel_rfl) (fun _ _ _ h => h) HS.out (Or.inl ⟨by rfl, by (intro W hW; obtain ⟨e0, e1, e2, e3, e4, e5, e6, e7, e8, e9⟩ := hW; go_simp)⟩) ?_
  simp only [Act.put, List.setIfInBounds_toArray, List.set_cons_succ, List.set_cons_zero]
  refine wpAnyY_one (i := 5) rfl (by kernel_rfl) (fun Kc hKc => ?_)
  go_simp
  refine hKc.out _ _ (fun _ h => ⟨cell_al h.1 _, cell_al h.2.1 _, cell_al h.2.2.1 _, cell_al h.2.2.2.1 _, cell_al h.2.2.2.2.1 _, cell_al h.2.2.2.2.2.1 _, cell_al h.2.2.2.2.2.2.1 _, cell_al h.2.2.2.2.2.2.2.1 _, cell_al h.2.2.2.2.2.2.2.2.1 _, cell_al h.2.2.2.2.2.2.2.2.2 _⟩) ?_
  clear hKc Kc
  refine wpAnyY_pure (i := 6) 66 (v := .agg #[.int .i64 c.letters, .int .i64 c.planes, .int .i64 (R : Int), .int .i64 c.lo, .int .i64 c.hi, .int .i64 c.most, .slice s.t.a s.t.n s.t.c, .slice s.k.a s.k.n s.k.c, .slice s.i.a s.i.n s.i.c, .slice s.r.a s.r.n s.r.c, .slice xa xn xc, .slice ya yn yc, .slice none 0 0, .bool false, .int .i64 0, .int .i64 0, .int .i64 0, .slice none 0 0, .int .i64 0, .slice (some ⟨wd.heap.size, 0, none⟩) R R]) rfl rfl (by kernel_rfl) (by kernel_rfl) (by kernel_rfl) (fun _ _ _ h => h) (Or.inl ⟨by rfl, by (intro W _; go_simp)⟩) ?_
  simp only [Act.put, List.setIfInBounds_toArray, List.set_cons_succ, List.set_cons_zero]
  refine wpAnyY_one (i := 7) rfl (by kernel_rfl) (fun Kc hKc => ?_)
  go_simp
  refine hKc.out _ _ (fun _ h => ⟨cell_al h.1 _, cell_al h.2.1 _, cell_al h.2.2.1 _, cell_al h.2.2.2.1 _, cell_al h.2.2.2.2.1 _, cell_al h.2.2.2.2.2.1 _, cell_al h.2.2.2.2.2.2.1 _, cell_al h.2.2.2.2.2.2.2.1 _, cell_al h.2.2.2.2.2.2.2.2.1 _, cell_al h.2.2.2.2.2.2.2.2.2 _⟩) ?_
  clear hKc Kc
  refine wpAnyY_pure (i := 8) 12 (v := .pointer (some ⟨wd.heap.size + 1, 0, none⟩)) rfl rfl (by kernel_rfl) (by kernel_rfl) (by kernel_rfl) (fun _ _ _ h => h) (Or.inl ⟨by rfl, by (intro W _; go_simp)⟩) ?_
  simp only [Act.put, List.setIfInBounds_toArray, List.set_cons_succ, List.set_cons_zero]
  refine wpAnyY_done (by kernel_rfl) ?_ _
  obtain ⟨wL, hwL⟩ : ∃ wL, wL = ((wd.alloc (.cells (dlC (fun _ => ct0) R) 103)).alloc (.cells #[.int .i64 c.letters, .int .i64 c.planes, .int .i64 (R : Int), .int .i64 c.lo, .int .i64 c.hi, .int .i64 c.most, .slice s.t.a s.t.n s.t.c, .slice s.k.a s.k.n s.k.c, .slice s.i.a s.i.n s.i.c, .slice s.r.a s.r.n s.r.c, .slice xa xn xc, .slice ya yn yc, .slice none 0 0, .bool false, .int .i64 0, .int .i64 0, .int .i64 0, .slice none 0 0, .int .i64 0, .slice (some ⟨wd.heap.size, 0, none⟩) R R] 61)).drew := ⟨_, rfl⟩
  have HM : Hid (Dm wd wL (wd.heap.size + 1) wd.heap.size c s ⟨xa, xn, xc⟩ ⟨ya, yn, yc⟩ R ((xn + 1) * (yn + 1)) [] (.slice none 0 0)) := by rw [hwL]; exact dm_start (s := s) (sx := ⟨xa, xn, xc⟩) (sy := ⟨ya, yn, yc⟩) _ HRR.out
  rw [← hwL]
  obtain ⟨b, hb⟩ : ∃ b, wd.heap.size + 1 = b := ⟨_, rfl⟩
  rw [hb] at HM ⊢
  clear hwL
  obtain ⟨n, hn⟩ : ∃ n, (xn + 1) * (yn + 1) = n := ⟨_, rfl⟩
  have HNn : Hid ((xn + 1) * (yn + 1) = n) := hn
  have hnN : (n : Int) = N := by rw [← hn, ← hN, Int.natCast_mul]; rfl
  have hn20 : n ≤ 1048576 := by simp only [decide_eq_false_iff_not] at d3; omega
  obtain ⟨P, hP⟩ : ∃ P : Nat, c.planes = P := ⟨c.planes.toNat, by have := HG.out.rt.planes; omega⟩
  have hP16 : 1 ≤ P ∧ P ≤ 16 := by have := HG.out.rt.planes; omega
  have HPP : Hid (c.planes = (P : Int)) := hP
  have hw1 : IntKind.i64.wrap ((xn : Int) + 1) = ((xn + 1 : Nat) : Int) := by rw [← wrap_is]; unfold wrap64; omega
  have hw2 : IntKind.i64.wrap ((yn : Int) + 1) = ((yn + 1 : Nat) : Int) := by rw [← wrap_is]; unfold wrap64; omega
  have hw3 : IntKind.i64.wrap (((xn + 1 : Nat) : Int) * ((yn + 1 : Nat) : Int)) = (n : Int) := by rw [← Int.natCast_mul, hn, ← wrap_is]; unfold wrap64; omega
  obtain ⟨n1, hn1⟩ : ∃ k, xn + 1 = k := ⟨_, rfl⟩
  obtain ⟨n2, hn2⟩ : ∃ k, yn + 1 = k := ⟨_, rfl⟩
  have hmn := make_cells n hn20
  have HN20 : Hid ((x.length + 1) * (y.length + 1) ≤ 1048576) := by show _ ≤ _; rw [HXY.out.1, HXY.out.2, HNn.out]; exact hn20
  have HI : Hid (∃ i0, Tryz.prog.info? 57 = some i0 ∧ i0.zero = some (.slice none 0 0) ∧ i0.size = 1 ∧ i0.bytes = 24) := info_parts info57
  rw [hn1] at hw1 hw3
  rw [hn2] at hw2 hw3
  have hn1b : n1 ≤ 65537 := by omega
  have hn2b : n2 ≤ 65537 := by omega
  rw [hn] at HM
  clear hn hn1 hn2 d1 d2 d3 hxs hys hnN hN hN2 hN3
  go_wp2
  go_loopg [13] P (fun g iv wr => ∃ (k : Nat) (rbs : List Nat) (v : Value), k + g = P ∧ iv = .int .i64 k ∧ rbs.length = k ∧ Hid (Dm wd wr b wd.heap.size c s ⟨xa, xn, xc⟩ ⟨ya, yn, yc⟩ R n rbs v))
  case atStart => exact ⟨0, [], .slice none 0 0, by omega, rfl, rfl, HM⟩
  case round =>
    clear HM
    obtain ⟨k, rbs, v, hkP, rfl, hrl, HM⟩ := hrel
    have HB := H2.out.next HM.out.low
    have c1 := HB.cell 1 (v := .int .i64 c.planes) rfl
    by_cases hk : k < P
    rotate_left
    · have hd : decide ((k : Int) < c.planes) = false := decide_eq_false (by omega)
      have hkP2 : k = P := by omega
      have HMe : Hid (rbs.length = c.planes.toNat) := by show _ = _; omega
      have hce : c.regs.toNat = R := by have := HRR.out; omega
      obtain ⟨p, se, hpb, hob, hD⟩ := Dm.done (x := x) (y := y) (c := c) (by rw [HXY.out.1, HXY.out.2, HNn.out, hce]; exact HM.out) HMe.out (by have := HPP.out; omega) (HC.out.1.below H2.out.low) (HC.out.2.1.below H2.out.low) (HC.out.2.2.below H2.out.low)
      have HD0 : Hid (Dt wd wr p c s ⟨xa, xn, xc⟩ ⟨ya, yn, yc⟩ x y se ms0 0) := hD
      have HOb : Hid (wd.heap.size ≤ p.ob) := hob
      clear HB hmn hw1 hw2 hw3 HI hD HM HMe hce hkP2 hob
      subst hpb
      have HSt : Hid (∀ (W : World) (se : Sl) (M : Ms) (st : Int) (q : Qd) (i j : Nat), q ∈ c.cell → i ≤ x.length → j ≤ y.length → Dt wd W p c s ⟨xa, xn, xc⟩ ⟨ya, yn, yc⟩ x y se M st → Nrm c x.length y.length M → Calls Tryz.prog 18 #[.pointer (some ⟨p.b, 0, none⟩), .agg #[.int .i64 q.1, .int .i64 q.2.1, .int .i64 q.2.2.1, .int .i64 q.2.2.2], .int .i64 (i : Int), .int .i64 (j : Int)] W (SpPost wd p c s ⟨xa, xn, xc⟩ ⟨ya, yn, yc⟩ x y (actB c x y i j M q) st)) :=
        fun W se M st q i j hq hi hj hD hn => tstep_calls HG.out hD hn HN20.out (by rw [HXY.out.1]; omega) (by rw [HXY.out.2]; omega) (let_all HLt.out.1) (let_all HLt.out.2) hq i j hi hj
      have HLn : Hid (c.cell.length = s.i.n ∧ c.cell.length ≤ 1000) := ⟨HC.out.1.cell.length, HG.out.rt.clen⟩
      go_wp2
      go_loopg [14, 15, 16, 17] (xn + 1) (fun g v14 _ _ _ wo => ∃ (i : Nat) (se : Sl) (t : Nat), i + g = xn + 1 ∧ v14 = .int .i64 i ∧ Hid (Dt wd wo p c s ⟨xa, xn, xc⟩ ⟨ya, yn, yc⟩ x y se (runK c x y i) (t : Int) ∧ Rk c x y i 0 (runK c x y i) t))
      case atStart => exact ⟨0, se, 0, by omega, rfl, ⟨HD0.out, Rk.start⟩⟩
      case round =>
        clear HD0
        obtain ⟨i, se, t, hiN, rfl, HD⟩ := hrel
        by_cases hi : i ≤ xn
        rotate_left
        · have hd2 : decide ((i : Int) ≤ (xn : Int)) = false := decide_eq_false (by omega)
          obtain rfl : i = xn + 1 := by omega
          have HFh : Hid (DRunPost c s ⟨xa, xn, xc⟩ ⟨ya, yn, yc⟩ x y w (.returned (.tuple #[.pointer (some ⟨p.b, 0, none⟩), .int .i64 0])) wr) := by
            have e := runK_is c x y
            rw [HXY.out.1] at e
            obtain ⟨h1, h2⟩ := HD.out
            rw [e] at h1 h2
            rw [← h2.st] at h1
            refine ⟨H2.out.low.trans (h1.low.mono H2.out.low.size), _, by rw [HR0.out], fun h => absurd HR0.out h, fun _ => ⟨wd, p, se, rfl, H2.out.low, h1, h2.nrm, HOb.out⟩⟩
          clear HD
          go_wp2
          go_ret2
          exact HFh.out
        have hd2 : decide ((i : Int) ≤ (xn : Int)) = true := decide_eq_true (by omega)
        obtain ⟨wo, rfl⟩ : ∃ v, v = wr := ⟨_, rfl⟩
        obtain ⟨go, rfl⟩ : ∃ v, v = gk := ⟨_, rfl⟩
        have hgo : 0 < go := by omega
        go_wp2
        go_loopg [15, 16, 17] (yn + 1) (fun g v15 _ _ wo2 => ∃ (j : Nat) (se : Sl) (t : Nat), j + g = yn + 1 ∧ v15 = .int .i64 j ∧ Hid (Dt wd wo2 p c s ⟨xa, xn, xc⟩ ⟨ya, yn, yc⟩ x y se (rowK c x y i j (runK c x y i)) (t : Int) ∧ Rk c x y i j (rowK c x y i j (runK c x y i)) t))
        case atStart => exact ⟨0, se, t, by omega, rfl, HD⟩
        case round =>
          clear HD
          obtain ⟨j, se, t, hjN, rfl, HD⟩ := hrel
          by_cases hj : j ≤ yn
          rotate_left
          · have hd3 : decide ((j : Int) ≤ (yn : Int)) = false := decide_eq_false (by omega)
            obtain rfl : j = yn + 1 := by omega
            have HDn : Hid (Dt wd wr p c s ⟨xa, xn, xc⟩ ⟨ya, yn, yc⟩ x y se (runK c x y (i + 1)) (t : Int) ∧ Rk c x y (i + 1) 0 (runK c x y (i + 1)) t) := by
              obtain ⟨h1, h2⟩ := HD.out
              have e := HXY.out.2
              show _ ∧ _
              rw [runK_succ]
              rw [← e] at h2
              exact ⟨by rw [e]; exact h1, h2.row⟩
            clear HD
            go_wp2
            go_roundg (go - 1)
            case rel => exact ⟨i + 1, se, t, by omega, by go_num, HDn⟩
            case measure => omega
          have hd3 : decide ((j : Int) ≤ (yn : Int)) = true := decide_eq_true (by omega)
          obtain ⟨wo2, rfl⟩ : ∃ v, v = wr := ⟨_, rfl⟩
          obtain ⟨go2, rfl⟩ : ∃ v, v = gk := ⟨_, rfl⟩
          have hgo2 : 0 < go2 := by omega
          have HIj : Hid (i ≤ x.length ∧ j ≤ y.length) := by rw [HXY.out.1, HXY.out.2]; exact ⟨hi, hj⟩
          go_wp2_with fail
          refine (druns_calls HD.out.1 (i : Int) (j : Int) (by omega) (by omega)).mono ?_
          rintro e w4 ⟨rfl, rfl⟩
          rw [runs_in HIj.out.1 HIj.out.2]
          obtain ⟨bo, hbo⟩ : ∃ b, inBd c i j = b := ⟨_, rfl⟩
          have HBo : Hid (inBd c i j = bo) := hbo
          rw [hbo]
          obtain ⟨M, hM⟩ : ∃ M, rowK c x y i j (runK c x y i) = M := ⟨_, rfl⟩
          have HMe : Hid (rowK c x y i j (runK c x y i) = M) := hM
          rw [hM] at HD
          clear hM hbo
          have HRk : Hid (Rk c x y i j M t) := HD.out.2
          go_wp2
          go_loopg [17] c.cell.length (fun g v17 wo3 => ∃ (k : Nat) (se : Sl), k + g = c.cell.length ∧ v17 = .int .i64 k ∧ (bo = false → k = 0) ∧ Hid (Dt wd wo3 p c s ⟨xa, xn, xc⟩ ⟨ya, yn, yc⟩ x y se ((c.cell.take k).foldl (actB c x y i j) M) ((t + k : Nat) : Int)))
          case atStart => exact ⟨0, se, by omega, rfl, fun _ => rfl, HD.out.1⟩
          case round =>
            clear HD
            obtain ⟨k, se, hkL, rfl, hk0, HD⟩ := hrel
            have HB := H2.out.next HD.out.low
            have c8 := HB.cell 8 (v := .slice s.i.a s.i.n s.i.c) rfl
            have hln := HLn.out.1
            cases bo with
            | false =>
              have hkz : k = 0 := hk0 rfl
              subst hkz
              have HDn : Hid (Dt wd wr p c s ⟨xa, xn, xc⟩ ⟨ya, yn, yc⟩ x y se (rowK c x y i (j + 1) (runK c x y i)) (t : Int) ∧ Rk c x y i (j + 1) (rowK c x y i (j + 1) (runK c x y i)) t) := cell_no HBo.out HMe.out HRk.out HD.out
              clear HD HB HRk
              clear hk0
              go_wp2
              · go_roundg (go2 - 1)
                case rel => exact ⟨j + 1, se, t, by omega, by go_num, HDn⟩
                case measure => omega
              · go_roundg (go2 - 1)
                case rel => exact ⟨j + 1, se, t, by omega, by go_num, HDn⟩
                case measure => omega
            | true =>
              clear hk0
              by_cases hk : k < s.i.n
              rotate_left
              · have hd4 : decide ((k : Int) < (s.i.n : Int)) = false := decide_eq_false (by omega)
                have hkz : k = c.cell.length := by omega
                subst hkz
                have HDn : Hid (Dt wd wr p c s ⟨xa, xn, xc⟩ ⟨ya, yn, yc⟩ x y se (rowK c x y i (j + 1) (runK c x y i)) ((t + c.cell.length : Nat) : Int) ∧ Rk c x y i (j + 1) (rowK c x y i (j + 1) (runK c x y i)) (t + c.cell.length)) := cell_yes HG.out HIj.out.1 HIj.out.2 HN20.out HBo.out HMe.out HRk.out HD.out
                clear HD HB HRk
                go_wp2
                go_roundg (go2 - 1)
                case rel => exact ⟨j + 1, se, _, by omega, by go_num, HDn⟩
                case measure => omega
              have hd4 : decide ((k : Int) < (s.i.n : Int)) = true := decide_eq_true (by omega)
              obtain ⟨q, hq⟩ : ∃ q, c.cell[k]? = some q := ⟨c.cell[k]'(by omega), List.getElem?_eq_getElem _⟩
              have HQ : Hid (c.cell[k]? = some q) := hq
              have HLw : Hid (Below w.heap.size w wr) := HB.low
              obtain ⟨ib, ioff, hia, hic⟩ := HC.out.1.cell.cells (by omega)
              obtain ⟨a1, a2, a3, a4⟩ := hic k q hq
              have a1 := cell_bl HLw.out a1
              have a2 := cell_bl HLw.out a2
              have a3 := cell_bl HLw.out a3
              have a4 := cell_bl HLw.out a4
              rw [hia] at c8
              clear hia hic hq HLw HB
              have hgk : 0 < gk := by omega
              go_wp2_with fail
              refine (HSt.out _ se _ _ q i j (List.mem_of_getElem? HQ.out) HIj.out.1 HIj.out.2 HD.out (Nrm.acts HG.out HIj.out.2 HBo.out HRk.out.nrm _ (fun q h => List.mem_of_mem_take h))).mono ?_
              rintro e w5 ⟨rfl, se5, hD5⟩
              rw [← acts_snoc HQ.out] at hD5
              have HD5 : Hid (Dt wd w5 p c s ⟨xa, xn, xc⟩ ⟨ya, yn, yc⟩ x y se5 ((c.cell.take (k + 1)).foldl (actB c x y i j) M) ((t + k : Nat) : Int)) := hD5
              clear hD5 HD a1 a2 a3 a4 c8
              obtain ⟨tk, htk⟩ : ∃ m, t + k = m := ⟨_, rfl⟩
              have htb : tk ≤ 1048577000 := by have := HRk.out.small HIj.out.1 HIj.out.2 HN20.out; have := HLn.out.2; omega
              have hwt : IntKind.i64.wrap ((tk : Int) + 1) = ((tk + 1 : Nat) : Int) := by rw [← wrap_is]; unfold wrap64; omega
              obtain ⟨t1, ht1⟩ : ∃ m, tk + 1 = m := ⟨_, rfl⟩
              rw [ht1] at hwt
              rw [htk] at HD5
              have y18 := HD5.out.cell 18 (v := .int .i64 (tk : Int)) rfl
              have yf := HD5.out.fz
              have HDn : Hid (Dt wd (w5.setCell ⟨p.b, 18, none⟩ (.int .i64 t1)) p c s ⟨xa, xn, xc⟩ ⟨ya, yn, yc⟩ x y se5 ((c.cell.take (k + 1)).foldl (actB c x y i j) M) ((t + (k + 1) : Nat) : Int)) := by
                have e : t + (k + 1) = t1 := by omega
                rw [e]
                exact HD5.out.stepW _
              clear HD5
              go_wp2
              clear yf y18
              generalize w5.setCell ⟨p.b, 18, none⟩ (.int .i64 t1) = wz at *
              go_roundg (gk - 1)
              case rel => exact ⟨k + 1, se5, by omega, by go_num, fun h => Bool.noConfusion h, HDn⟩
              case measure => omega
    have hd : decide ((k : Int) < c.planes) = true := decide_eq_true (by omega)
    have hgk : 0 < gk := by omega
    go_upto_region 16 with (fail)
    obtain ⟨i0, hi0, hz0, hz1, hz2⟩ := HI.out
    have HI : Hid (Tryz.prog.info? 57 = some i0 ∧ i0.zero = some (.slice none 0 0) ∧ i0.size = 1 ∧ i0.bytes = 24) := ⟨hi0, hz0, hz1, hz2⟩
    clear hi0 hz0 hz1 hz2
    have HS : Hid ((fun W : World => W.cell? ⟨b, 12, none⟩ = some (v)) wr.drew) := cell_block HM.out.box 12 _ rfl
    refine wp_region_Y (fun j => [14, 17].contains j) (fun W : World => W.cell? ⟨b, 12, none⟩ = some (v)) (by kernel_rfl) ?_
    refine wpAnyY_pure (i := 0) 74 (v := .pointer (some ⟨b, 0, none⟩)) rfl rfl (by kernel_rfl) (by kernel_rfl) (by kernel_rfl) (fun _ _ _ h => h) (Or.inl ⟨by rfl, by (intro W _; go_simp)⟩) ?_
    simp only [Act.put, List.setIfInBounds_toArray, List.set_cons_succ, List.set_cons_zero]
    refine wpAnyY_pure (i := 1) 75 (v := .pointer (some ⟨b, 0, none⟩)) rfl rfl (by kernel_rfl) (by kernel_rfl) (by kernel_rfl) (fun _ _ _ h => h) (Or.inl ⟨by rfl, by (intro W _; go_simp)⟩) ?_
    simp only [Act.put, List.setIfInBounds_toArray, List.set_cons_succ, List.set_cons_zero]
    refine wpAnyY_pure (i := 2) 76 (v := .pointer (some ⟨b, 0, none⟩)) rfl rfl (by kernel_rfl) (by kernel_rfl) (by kernel_rfl) (fun _ _ _ h => h) (Or.inl ⟨by rfl, by (intro W _; go_simp)⟩) ?_
    simp only [Act.put, List.setIfInBounds_toArray, List.set_cons_succ, List.set_cons_zero]
    refine wpAnyY_pure (i := 3) 77 (v := .pointer (some ⟨b, 12, none⟩)) rfl rfl (by kernel_rfl) (by kernel_rfl) (by kernel_rfl) (fun _ _ _ h => h) (Or.inl ⟨by rfl, by (intro W _; go_simp)⟩) ?_
    simp only [Act.put, List.setIfInBounds_toArray, List.set_cons_succ, List.set_cons_zero]
    refine wpAnyY_takeD (i := 4) 78 (v := v) rfl rfl (by kernel_rfl) (by kernel_rfl) (late_of (by kernel_rfl)) (by kernel_rfl) (by kernel_rfl) (fun _ _ _ h => h) HS.out (Or.inl ⟨by rfl, by (intro W hW; obtain e0 := hW; go_simp)⟩) ?_
    simp only [Act.put, List.setIfInBounds_toArray, List.set_cons_succ, List.set_cons_zero]
    refine wpAnyY_pure (i := 5) 79 (v := .slice xa xn xc) rfl rfl (by kernel_rfl) (by kernel_rfl) (by kernel_rfl) (fun _ _ _ h => h) (Or.inl ⟨by rfl, by (intro W _; go_simp)⟩) ?_
    simp only [Act.put, List.setIfInBounds_toArray, List.set_cons_succ, List.set_cons_zero]
    refine wpAnyY_pure (i := 6) 80 (v := .int .i64 (xn : Int)) rfl rfl (by kernel_rfl) (by kernel_rfl) (by kernel_rfl) (fun _ _ _ h => h) (Or.inl ⟨by rfl, by (intro W _; go_simp)⟩) ?_
    simp only [Act.put, List.setIfInBounds_toArray, List.set_cons_succ, List.set_cons_zero]
    refine wpAnyY_pure (i := 7) 81 (v := .int .i64 (n1 : Int)) rfl rfl (by kernel_rfl) (by kernel_rfl) (by kernel_rfl) (fun _ _ _ h => h) (Or.inl ⟨by rfl, by (intro W _; go_simp)⟩) ?_
    simp only [Act.put, List.setIfInBounds_toArray, List.set_cons_succ, List.set_cons_zero]
    refine wpAnyY_pure (i := 8) 82 (v := .slice ya yn yc) rfl rfl (by kernel_rfl) (by kernel_rfl) (by kernel_rfl) (fun _ _ _ h => h) (Or.inl ⟨by rfl, by (intro W _; go_simp)⟩) ?_
    simp only [Act.put, List.setIfInBounds_toArray, List.set_cons_succ, List.set_cons_zero]
    refine wpAnyY_pure (i := 9) 83 (v := .int .i64 (yn : Int)) rfl rfl (by kernel_rfl) (by kernel_rfl) (by kernel_rfl) (fun _ _ _ h => h) (Or.inl ⟨by rfl, by (intro W _; go_simp)⟩) ?_
    simp only [Act.put, List.setIfInBounds_toArray, List.set_cons_succ, List.set_cons_zero]
    refine wpAnyY_pure (i := 10) 84 (v := .int .i64 (n2 : Int)) rfl rfl (by kernel_rfl) (by kernel_rfl) (by kernel_rfl) (fun _ _ _ h => h) (Or.inl ⟨by rfl, by (intro W _; go_simp)⟩) ?_
    simp only [Act.put, List.setIfInBounds_toArray, List.set_cons_succ, List.set_cons_zero]
    refine wpAnyY_pure (i := 11) 85 (v := .int .i64 (n : Int)) rfl rfl (by kernel_rfl) (by kernel_rfl) (by kernel_rfl) (fun _ _ _ h => h) (Or.inl ⟨by rfl, by (intro W _; go_simp)⟩) ?_
    simp only [Act.put, List.setIfInBounds_toArray, List.set_cons_succ, List.set_cons_zero]
    refine wpAnyY_one (i := 12) rfl (by kernel_rfl) (fun Kc hKc => ?_)
    go_simp
    refine hKc.out _ _ (fun _ h => cell_al h _) ?_
    clear hKc Kc
    refine wpAnyY_one (i := 13) rfl (by kernel_rfl) (fun Kc hKc => ?_)
    go_simp
    refine hKc.out _ _ (fun _ h => cell_al h _) ?_
    clear hKc Kc
    have HT0 : Hid (Dm wd wr.drew b wd.heap.size c s ⟨xa, xn, xc⟩ ⟨ya, yn, yc⟩ R n rbs v) := HM.out.next (Below.refl _ _).drew
    have HT3 := (HT0.out.next (below_new (.cells (dlC (fun _ => ct0) n) 103))).next (below_new (.cells [Value.slice (some ⟨wr.heap.size, 0, none⟩) n n].toArray 57))
    have hown := HT3.own
    rw [hrl] at hown
    refine wpAnyY_one (i := 14) rfl (by kernel_rfl) (fun Kc hKc => ?_)
    refine step_append_fresh rfl (.tmp 78) (.tmp 87) 58 rfl wd.heap.size 57 i0 _ 1 24 Tryz.underlying58 HI.out.1 HI.out.2.1 HI.out.2.2.1 HI.out.2.2.2 rfl (by decide) v _ _ (by simp [Act.eval]) hown ⟨wr.heap.size + 1, 0, none⟩ 1 1 [Value.slice (some ⟨wr.heap.size, 0, none⟩) n n] (by simp [Act.eval]) rfl ?_ (by intro u hu; simp at hu; subst hu; rfl) (by unfold maxLen; omega) (by omega) HT3.low.size ?_
    · have := cells_new4 (wr.drew.alloc (.cells (dlC (fun _ => ct0) n) 103)) [Value.slice (some ⟨wr.heap.size, 0, none⟩) n n] 57
      rw [show (wr.drew.alloc (.cells (dlC (fun _ => ct0) n) 103)).heap.size = wr.heap.size + 1 from by first | (simp; done) | (simp; rfl)] at this
      exact this
    intro v2 wa o1 o2 o3
    have hbx := HT3.grown o2
    refine hKc.out _ _ (fun _ _ => cell_block hbx 12 _ rfl) ?_
    clear hKc Kc
    have HMn : Hid (Dm wd (wa.setCell ⟨b, 12, none⟩ v2) b wd.heap.size c s ⟨xa, xn, xc⟩ ⟨ya, yn, yc⟩ R n (rbs ++ [wr.heap.size]) v2) := HT0.out.more (by rw [hrl]; exact o1) o2
    have y12 := cell_block hbx 12 (v := v) rfl
    have f12 : ∀ k, wa.frozen? ⟨b, k, none⟩ = false := fun k => frozen_of_row _ _ k _ _ hbx
    obtain ⟨vo, vc, hv⟩ := owned_shape o1
    subst hv
    clear HT3 HT0 hown o1 o2 o3 hbx HM HB
    simp only [Act.put]
    refine wpAnyY_pure (i := 15) 89 (v := .pointer (some ⟨b, 0, none⟩)) rfl rfl (by kernel_rfl) (by kernel_rfl) (by kernel_rfl) (fun _ _ _ h => h) (Or.inl ⟨by rfl, by (intro W _; go_simp)⟩) ?_
    simp only [Act.put]
    refine wpAnyY_pure (i := 16) 90 (v := .pointer (some ⟨b, 12, none⟩)) rfl rfl (by kernel_rfl) (by kernel_rfl) (by kernel_rfl) (fun _ _ _ h => h) (Or.inl ⟨by rfl, by (intro W _; go_simp)⟩) ?_
    simp only [Act.put]
    refine wpAnyY_one (i := 17) rfl (by kernel_rfl) (fun Kc hKc => ?_)
    go_simp
    refine hKc.out _ _ (fun h => absurd h (by decide)) ?_
    clear hKc Kc
    refine wpAnyY_done (by kernel_rfl) ?_ _
    clear y12 f12 HI
    generalize wa.setCell ⟨b, 12, none⟩ (.slice vo (k + 1) vc) = wz at *
    go_wp2
    go_roundg (gk - 1)
    case rel => exact ⟨k + 1, _, _, by omega, by go_num, by simp [hrl], HMn⟩
    case measure => omega

end Go.Proofs.YtnkfibahkmmnpaaGreat
