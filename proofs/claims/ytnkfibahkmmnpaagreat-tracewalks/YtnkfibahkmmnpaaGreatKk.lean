/-
  The walk of a cell: all instructions. The walk of all cells.
-/
import Derived.Test.YtnkfibahkmmnpaaGreatKae
namespace Go.Proofs.YtnkfibahkmmnpaaGreat
open Go.RowKit

section
variable {dq : Nat → Option (Array Value × Nat)} {w0 w : World} {tq b g gs : Nat} {c : Cd} {s : Ls} {sx sy sa : Sl} {x y : List Int} {i j : Nat} {M : Ms}
/-- The count of instructions. -/
theorem Rn.steps (h : Rn dq w0 w b g gs c s sx sy sa x y i j M) (st : Int) : Rn dq w0 (w.setCell ⟨g, 19, none⟩ (.int .i64 st)) b g gs c s sx sy sa x y i j { M with steps := st } := by
  have hT : Tb (w.setCell ⟨g, 19, none⟩ (.int .i64 st)) g gs c.planes.toNat x.length y.length sa M.slots M.ends st := by
    refine h.tb.setBox ?_ (Below.heap_setCell _ _ _ _ h.tb.ne)
    rw [heap_setCell_same w g 19 _ 90 (.int .i64 st) h.tb.box]
    rfl
  exact h.bar ((Bar.refl g w).set 19 _) hT
theorem take_fold {c : Cd} {x y : List Int} {i j : Nat} {M : Ms} {k : Nat} {q : Qd} (h : c.cell[k]? = some q) : (c.cell.take (k + 1)).foldl (actB c x y i j) M = actB c x y i j ((c.cell.take k).foldl (actB c x y i j) M) q := by
  obtain ⟨h1, h2⟩ := List.getElem?_eq_some_iff.1 h
  rw [List.take_succ_eq_append_getElem h1, List.foldl_append, h2]
  rfl
set_option maxRecDepth 10000 in
set_option maxHeartbeats 2000000 in
theorem cell_calls (hg : Gk c) (htq : dq tq = some (actsV, 133)) (h : Rn dq w0 w b g gs c s sx sy sa x y i j M) (hi : i ≤ x.length) (hj : j ≤ y.length) (hx : lettersB c x) (hy : lettersB c y) (hM : MOk M) :
    Calls Tryz.prog 31 #[.pointer (some ⟨b, 0, none⟩), .slice (some ⟨tq, 0, none⟩) 9 9] w fun e w' => e = .returned (.tuple #[]) ∧ Rn dq w0 w' b g gs c s sx sy sa x y i j (cellM c x y i j M) := by
  obtain ⟨sT, sK, ⟨ia, n, ic⟩, sR⟩ := s
  have HG : Hid (Gk c) := hg
  have HTq : Hid (dq tq = some (actsV, 133)) := htq
  have HN : Hid (c.cell.length = n ∧ n ≤ 1000) := ⟨h.cd.cell.length, by have := h.cd.cell.length; simp only at this; rw [← this]; exact hg.rt.clen⟩
  have HL : Hid (Rn dq w0 w b g gs c ⟨sT, sK, ⟨ia, n, ic⟩, sR⟩ sx sy sa x y i j M) := h
  have HX : Hid (i ≤ x.length ∧ j ≤ y.length ∧ lettersB c x ∧ lettersB c y ∧ MOk M) := ⟨hi, hj, hx, hy, hM⟩
  have c9 := h.cell 9 (by omega) (v := .slice ia n ic) rfl
  have hlb := h.lt.1
  clear h hi hj hx hy hM hg htq
  go_enter Tryz.func31, Tryz.ntmps31
  go_wp2
  go_loopg [5, 12] n (fun q _ iv wr => ∃ (k : Nat), k + q = n ∧ iv = .int .i64 k ∧ Hid (Rn dq w0 wr b g gs c ⟨sT, sK, ⟨ia, n, ic⟩, sR⟩ sx sy sa x y i j ((c.cell.take k).foldl (actB c x y i j) M)))
  case atStart => exact ⟨0, by omega, rfl, HL.out⟩
  case round =>
    clear HL c9 hlb
    have hn1 := HN.out.2
    obtain ⟨k, hkq, rfl, HL⟩ := hrel
    by_cases hlt : k < n
    · have hkl : k < c.cell.length := by rw [HN.out.1]; exact hlt
      obtain ⟨q, hq⟩ := get_lt (l := c.cell) (k := k) hkl
      have hqm := List.mem_of_getElem? hq
      have HF : Hid ((c.cell.take (k + 1)).foldl (actB c x y i j) M = actB c x y i j ((c.cell.take k).foldl (actB c x y i j) M) q) := take_fold hq
      have HMk : Hid (MOk ((c.cell.take k).foldl (actB c x y i j) M)) := MOk.acts c x y i j _ HX.out.2.2.2.2 fun z hz => HG.out.bit z (List.mem_of_mem_take hz)
      obtain ⟨Mk, hMk⟩ : ∃ Mk, (c.cell.take k).foldl (actB c x y i j) M = Mk := ⟨_, rfl⟩
      rw [hMk] at HL HF HMk
      clear hMk
      have HAct : Hid (∀ W, Rn dq w0 W b g gs c ⟨sT, sK, ⟨ia, n, ic⟩, sR⟩ sx sy sa x y i j Mk → Calls Tryz.prog (53 + q.1.toNat) #[.pointer (some ⟨b, 0, none⟩), qdA q] W fun e w' => e = .returned (.tuple #[]) ∧ Rn dq w0 w' b g gs c ⟨sT, sK, ⟨ia, n, ic⟩, sR⟩ sx sy sa x y i j (actB c x y i j Mk q)) := fun W hW => act_calls HG.out hW hqm HX.out.1 HX.out.2.1 HX.out.2.2.1 HX.out.2.2.2.1 HMk.out
      have ho := (HG.out.nam hqm).1
      obtain ⟨bb, off, hra, hcs⟩ := (HL.out.cd.cell.below HL.out.low).cells (show 0 < n by omega)
      have hra2 : ia = some ⟨bb, off, none⟩ := hra
      clear hra
      subst hra2
      obtain ⟨c1, c2, c3, c4⟩ := hcs k q hq
      clear hcs hq hkl hqm HMk
      obtain ⟨o0, p, r, t⟩ := q
      simp only at c1 c2 c3 c4 ho
      obtain ⟨o, rfl⟩ : ∃ o : Nat, o0 = (o : Int) := ⟨o0.toNat, by omega⟩
      have ho9 : (o : Int) < 9 := by omega
      have HEn : Hid (∀ args W, (callFunc (53 + o) args).run Tryz.prog W = .ok (.enter (53 + o) args) W) := acts_enter (by omega) (by omega)
      have HGet : Hid (actsV[o]? = some (.func (.func (53 + o)) #[] #[])) := acts_get (by omega) (by omega)
      have HAct2 : Hid (∀ W, Rn dq w0 W b g gs c ⟨sT, sK, ⟨some ⟨bb, off, none⟩, n, ic⟩, sR⟩ sx sy sa x y i j Mk → Calls Tryz.prog (53 + o) #[.pointer (some ⟨b, 0, none⟩), .agg #[.int .i64 (o : Int), .int .i64 p, .int .i64 r, .int .i64 t]] W fun e w' => e = .returned (.tuple #[]) ∧ Rn dq w0 w' b g gs c ⟨sT, sK, ⟨some ⟨bb, off, none⟩, n, ic⟩, sR⟩ sx sy sa x y i j (actB c x y i j Mk ((o : Int), p, r, t))) := HAct.out
      clear HAct ho
      have HAct := HAct2
      clear HAct2
      have HLA : Hid (∀ o, Rn dq w0 (wr.alloc o) b g gs c ⟨sT, sK, ⟨some ⟨bb, off, none⟩, n, ic⟩, sR⟩ sx sy sa x y i j Mk) := fun o => HL.out.next (below_new o)
      have HB : Hid ((wr.alloc (.cells #[.int .i64 (o : Int), .int .i64 p, .int .i64 r, .int .i64 t] 65)).heap[wr.heap.size]? = some (.cells #[.int .i64 (o : Int), .int .i64 p, .int .i64 r, .int .i64 t] 65 (0, 0))) := heap_alloc_new _ _
      go_upto_region 3 with (fail)
      have HW3 : Hid (Rn dq w0 (wr.alloc (.cells #[.int .i64 (o : Int), .int .i64 p, .int .i64 r, .int .i64 t] 65)).drew b g gs c ⟨sT, sK, ⟨some ⟨bb, off, none⟩, n, ic⟩, sR⟩ sx sy sa x y i j Mk) := (HLA.out _).drew
      have HB3 : Hid ((wr.alloc (.cells #[.int .i64 (o : Int), .int .i64 p, .int .i64 r, .int .i64 t] 65)).drew.heap[wr.heap.size]? = some (.cells #[.int .i64 (o : Int), .int .i64 p, .int .i64 r, .int .i64 t] 65 (0, 0))) := HB.out
      clear HB HLA HL c1 c2 c3 c4
      obtain ⟨wd, hwd⟩ : ∃ wd, wd = wr.alloc (.cells #[.int .i64 (o : Int), .int .i64 p, .int .i64 r, .int .i64 t] 65) := ⟨_, rfl⟩
      rw [← hwd] at HW3 HB3 ⊢
      clear hwd
      generalize wr.heap.size = gb at *
      have HS : Hid ((fun W : World => W.cell? ⟨gb, 0, none⟩ = some (.int .i64 o) ∧ W.cell? ⟨gb, 1, none⟩ = some (.int .i64 p) ∧ W.cell? ⟨gb, 2, none⟩ = some (.int .i64 r) ∧ W.cell? ⟨gb, 3, none⟩ = some (.int .i64 t) ∧ W.cell? ⟨tq, o, none⟩ = some (.func (.func (53 + o)) #[] #[])) wd.drew) :=
        ⟨cell_block HB3.out 0 _ rfl, cell_block HB3.out 1 _ rfl, cell_block HB3.out 2 _ rfl, cell_block HB3.out 3 _ rfl, cell_block (HW3.out.ds tq _ _ HTq.out).1 o _ HGet.out⟩
      refine wp_region_Y (fun j => [7].contains j) (fun W : World => W.cell? ⟨gb, 0, none⟩ = some (.int .i64 o) ∧ W.cell? ⟨gb, 1, none⟩ = some (.int .i64 p) ∧ W.cell? ⟨gb, 2, none⟩ = some (.int .i64 r) ∧ W.cell? ⟨gb, 3, none⟩ = some (.int .i64 t) ∧ W.cell? ⟨tq, o, none⟩ = some (.func (.func (53 + o)) #[] #[])) (by kernel_rfl) ?_
      refine wpAnyY_pure (i := 0) 16 (v := .slice (some ⟨tq, 0, none⟩) 9 9) rfl rfl (by kernel_rfl) (by kernel_rfl) (by kernel_rfl) (fun _ _ _ h => h) (Or.inl ⟨by rfl, by (intro W _; go_simp)⟩) ?_
      simp only [Act.put, List.setIfInBounds_toArray, List.set_cons_succ, List.set_cons_zero]
      refine wpAnyY_pure (i := 1) 17 (v := .pointer (some ⟨gb, 0, none⟩)) rfl rfl (by kernel_rfl) (by kernel_rfl) (by kernel_rfl) (fun _ _ _ h => h) (Or.inl ⟨by rfl, by (intro W _; go_simp)⟩) ?_
      simp only [Act.put, List.setIfInBounds_toArray, List.set_cons_succ, List.set_cons_zero]
      refine wpAnyY_takeD (i := 2) 18 (v := .int .i64 (o : Int)) rfl rfl (by kernel_rfl) (by kernel_rfl) (late_of (by kernel_rfl)) (by kernel_rfl) (by kernel_rfl) (fun _ _ _ h => h) HS.out (Or.inl ⟨by rfl, by (intro W hW; obtain ⟨e0, e1, e2, e3, e4⟩ := hW; go_simp)⟩) ?_
      simp only [Act.put, List.setIfInBounds_toArray, List.set_cons_succ, List.set_cons_zero]
      refine wpAnyY_pure (i := 3) 19 (v := .pointer (some ⟨tq, o, none⟩)) rfl rfl (by kernel_rfl) (by kernel_rfl) (by kernel_rfl) (fun _ _ _ h => h) (Or.inl ⟨by rfl, by (intro W _; go_simp)⟩) ?_
      simp only [Act.put, List.setIfInBounds_toArray, List.set_cons_succ, List.set_cons_zero]
      refine wpAnyY_takeD (i := 4) 20 (v := .func (.func (53 + o)) #[] #[]) rfl rfl (by kernel_rfl) (by kernel_rfl) (late_of (by kernel_rfl)) (by kernel_rfl) (by kernel_rfl) (fun _ _ _ h => h) HS.out (Or.inl ⟨by rfl, by (intro W hW; obtain ⟨e0, e1, e2, e3, e4⟩ := hW; go_simp)⟩) ?_
      simp only [Act.put, List.setIfInBounds_toArray, List.set_cons_succ, List.set_cons_zero]
      refine wpAnyY_pure (i := 5) 21 (v := .pointer (some ⟨b, 0, none⟩)) rfl rfl (by kernel_rfl) (by kernel_rfl) (by kernel_rfl) (fun _ _ _ h => h) (Or.inl ⟨by rfl, by (intro W _; go_simp)⟩) ?_
      simp only [Act.put, List.setIfInBounds_toArray, List.set_cons_succ, List.set_cons_zero]
      refine wpAnyY_takeD (i := 6) 22 (v := .agg #[.int .i64 (o : Int), .int .i64 p, .int .i64 r, .int .i64 t]) rfl rfl (by kernel_rfl) (by kernel_rfl) (late_of (by kernel_rfl)) (by kernel_rfl) (by kernel_rfl) (fun _ _ _ h => h) HS.out (Or.inl ⟨by rfl, by (intro W hW; obtain ⟨e0, e1, e2, e3, e4⟩ := hW; go_simp)⟩) ?_
      simp only [Act.put, List.setIfInBounds_toArray, List.set_cons_succ, List.set_cons_zero]
      refine wpAnyY_one (i := 7) rfl (by kernel_rfl) (fun Kc hKc => ?_)
      refine step_fvD (some 23) rfl (by rfl) 20 (53 + o) _ _ rfl (by simp [Act.eval]) HEn.out #[.pointer (some ⟨b, 0, none⟩), .agg #[.int .i64 (o : Int), .int .i64 p, .int .i64 r, .int .i64 t]] (by simp [Act.eval]) (HAct.out _ HW3.out) ?_
      rintro e w2 ⟨rfl, hr2⟩
      refine ⟨_, rfl, hKc.out _ _ (fun h => absurd h (by decide)) ?_⟩
      clear hKc Kc
      refine wpAnyY_done (by kernel_rfl) ?_ _
      have HN2 : Hid (Rn dq w0 w2 b g gs c ⟨sT, sK, ⟨some ⟨bb, off, none⟩, n, ic⟩, sR⟩ sx sy sa x y i j ((c.cell.take (k + 1)).foldl (actB c x y i j) M)) := by show Rn _ _ _ _ _ _ _ _ _ _ _ _ _ _ _ _; rw [HF.out]; exact hr2
      clear hr2 HF HS HW3 HB3 HAct HEn HGet
      go_wp2
      go_roundg (gk - 1)
      case rel => exact ⟨k + 1, by omega, by go_num, HN2⟩
      case measure => omega
    · have hkn : k = n := by omega
      subst hkn
      have HT : Hid (c.cell.take k = c.cell) := List.take_of_length_le (by rw [HN.out.1]; exact Nat.le_refl _)
      rw [HT.out] at HL
      have HC : Hid (cellM c x y i j M = { c.cell.foldl (actB c x y i j) M with steps := wrap64 ((c.cell.foldl (actB c x y i j) M).steps + (k : Int)) }) := by show _ = _; unfold cellM; rw [HN.out.1]
      obtain ⟨Mk, hMk⟩ : ∃ Mk, c.cell.foldl (actB c x y i j) M = Mk := ⟨_, rfl⟩
      rw [hMk] at HL HC
      clear hMk HT
      have HR : Hid (∀ st, Rn dq w0 (wr.setCell ⟨g, 19, none⟩ (.int .i64 st)) b g gs c ⟨sT, sK, ⟨ia, k, ic⟩, sR⟩ sx sy sa x y i j { Mk with steps := st }) := fun st => HL.out.steps st
      have d0 := HL.out.cell 0 (by omega) (v := .pointer (some ⟨g, 0, none⟩)) rfl
      have d9 := HL.out.cell 9 (by omega) (v := .slice ia k ic) rfl
      have t19 := HL.out.tb.cell 19 (v := .int .i64 Mk.steps) rfl
      have f19 := HL.out.tb.fz 19
      have hlg := HL.out.lt.2.1
      have hlb := HL.out.lt.1
      have hbg : ¬ b = g := HL.out.bg
      clear HL
      go_wp2_with fail
      go_region
      go_wp2
      go_end0
      exact ⟨rfl, by rw [HC.out]; exact (HR.out _).drew⟩
end

end Go.Proofs.YtnkfibahkmmnpaaGreat
namespace Go.Proofs.YtnkfibahkmmnpaaGreat
open Go.RowKit

def rowTo (c : Cd) (x y : List Int) (i : Nat) (M : Ms) (j : Nat) : Ms := (List.range' (rowLo c i) (j - rowLo c i)).foldl (fun M j => cellM c x y i j M) M
def rowsTo (c : Cd) (x y : List Int) (i : Nat) : Ms := (List.range i).foldl (fun M i => rowM c x y i M) ms0
theorem rowTo_start (c : Cd) (x y : List Int) (i : Nat) (M : Ms) : rowTo c x y i M (rowLo c i) = M := by
  unfold rowTo; rw [Nat.sub_self]; rfl
theorem rowTo_step (c : Cd) (x y : List Int) (i : Nat) (M : Ms) {j : Nat} (h : rowLo c i ≤ j) : rowTo c x y i M (j + 1) = cellM c x y i j (rowTo c x y i M j) := by
  unfold rowTo
  rw [show j + 1 - rowLo c i = (j - rowLo c i) + 1 by omega, List.range'_concat, List.foldl_append, Nat.one_mul, show rowLo c i + (j - rowLo c i) = j by omega]
  rfl
theorem rowTo_end (c : Cd) (x y : List Int) (i : Nat) (M : Ms) {j : Nat} (h1 : rowLo c i ≤ j) (h2 : rowHi c y i < (j : Int)) (h3 : j = rowLo c i ∨ (j : Int) ≤ rowHi c y i + 1) : rowTo c x y i M j = rowM c x y i M := by
  unfold rowTo rowM
  rw [show ((rowHi c y i) + 1 - (rowLo c i : Int)).toNat = j - rowLo c i by omega]
theorem rowsTo_step (c : Cd) (x y : List Int) (i : Nat) : rowsTo c x y (i + 1) = rowM c x y i (rowsTo c x y i) := by
  unfold rowsTo
  rw [List.range_succ, List.foldl_append]
  rfl
section
variable {dq : Nat → Option (Array Value × Nat)} {w0 w : World} {tq b g gs : Nat} {c : Cd} {s : Ls} {sx sy sa : Sl} {x y : List Int} {i j : Nat} {M : Ms}
theorem rn_ij (m : Nat) (hm : m = 13 ∨ m = 14) {R : Nat → Ct} (n : Nat) : (rnCells g c s sx sy i j R).setIfInBounds m (.int .i64 n) = rnCells g c s sx sy (if m = 13 then n else i) (if m = 14 then n else j) R := by
  apply Array.ext_getElem?
  intro q
  by_cases hq : q < 63
  · rw [rn_get hq]
    simp only [Array.getElem?_setIfInBounds, rn_size, rn_get hq]
    by_cases h15 : m = q
    · rw [if_pos h15, if_pos (by omega)]
      subst h15
      rcases hm with rfl | rfl <;> rfl
    · rw [if_neg h15]
      unfold rnF
      by_cases e0 : q = 0
      · rw [if_pos e0, if_pos e0]
      by_cases e1 : q < 11
      · rw [if_neg e0, if_pos e1, if_neg e0, if_pos e1]
      by_cases e2 : q = 11
      · rw [if_neg e0, if_neg e1, if_pos e2, if_neg e0, if_neg e1, if_pos e2]
      by_cases e3 : q = 12
      · rw [if_neg e0, if_neg e1, if_neg e2, if_pos e3, if_neg e0, if_neg e1, if_neg e2, if_pos e3]
      by_cases e4 : q = 13
      · rw [if_neg e0, if_neg e1, if_neg e2, if_neg e3, if_pos e4, if_neg e0, if_neg e1, if_neg e2, if_neg e3, if_pos e4, if_neg (by omega)]
      by_cases e5 : q = 14
      · rw [if_neg e0, if_neg e1, if_neg e2, if_neg e3, if_neg e4, if_pos e5, if_neg e0, if_neg e1, if_neg e2, if_neg e3, if_neg e4, if_pos e5, if_neg (by omega)]
      rw [if_neg e0, if_neg e1, if_neg e2, if_neg e3, if_neg e4, if_neg e5, if_neg e0, if_neg e1, if_neg e2, if_neg e3, if_neg e4, if_neg e5]
  · rw [Array.getElem?_eq_none (by simp [rn_size]; omega), Array.getElem?_eq_none (by rw [rn_size]; omega)]
theorem Rn.putIJ (h : Rn dq w0 w b g gs c s sx sy sa x y i j M) (m : Nat) (hm : m = 13 ∨ m = 14) (n : Nat) : Rn dq w0 (w.setCell ⟨b, m, none⟩ (.int .i64 n)) b g gs c s sx sy sa x y (if m = 13 then n else i) (if m = 14 then n else j) M := by
  refine ⟨?_, ⟨?_, ?_, h.tb.few⟩, h.cd, h.hx, h.hy, h.low.setCell (p := ⟨b, _, none⟩) h.le.1 _, h.le, fun t cs ty ht => by rw [Below.heap_setCell _ _ _ _ (h.db ht).1]; exact h.ds t cs ty ht⟩
  · rw [heap_setCell_same w b m _ 53 (.int .i64 n) h.box, rn_ij m hm n]
  · rw [Below.heap_setCell _ _ _ _ h.bg.symm]; exact h.tb.box
  · rw [Below.heap_setCell _ _ _ _ h.bs.symm]; exact h.tb.row
theorem Rn.putI (h : Rn dq w0 w b g gs c s sx sy sa x y i j M) (n : Nat) : Rn dq w0 (w.setCell ⟨b, 13, none⟩ (.int .i64 n)) b g gs c s sx sy sa x y n j M := h.putIJ 13 (Or.inl rfl) n
theorem Rn.putJ (h : Rn dq w0 w b g gs c s sx sy sa x y i j M) (n : Nat) : Rn dq w0 (w.setCell ⟨b, 14, none⟩ (.int .i64 n)) b g gs c s sx sy sa x y i n M := h.putIJ 14 (Or.inr rfl) n
def updD (dq : Nat → Option (Array Value × Nat)) (tq : Nat) : Nat → Option (Array Value × Nat) := fun t => if t = tq then some (actsV, 133) else dq t
theorem updD_self (dq : Nat → Option (Array Value × Nat)) (tq : Nat) : updD dq tq tq = some (actsV, 133) := if_pos rfl
theorem Rn.with (h : Rn dq w0 w b g gs c s sx sy sa x y i j M) {w2 : World} (hb : Below w.heap.size w w2) (ht : w2.heap[tq]? = some (.cells actsV 133 (0, 0))) : Rn (updD dq tq) w0 w2 b g gs c s sx sy sa x y i j M := by
  have h2 := h.next hb
  refine ⟨h2.box, h2.tb, h2.cd, h2.hx, h2.hy, h2.low, h2.le, fun t cs ty e => ?_⟩
  unfold updD at e
  by_cases he : t = tq
  · rw [if_pos he] at e; cases e; subst he; exact ⟨ht, by decide, by decide, by decide⟩
  · rw [if_neg he] at e; exact h2.ds t cs ty e
theorem Rn.codeAt (h : Rn dq w0 w b g gs c s sx sy sa x y i j M) : w.cell? ⟨b, 4, none⟩ = some (.int .i64 c.lo) ∧ w.cell? ⟨b, 5, none⟩ = some (.int .i64 c.hi) ∧ w.cell? ⟨b, 11, none⟩ = some (.slice sx.a sx.n sx.c) ∧ w.cell? ⟨b, 12, none⟩ = some (.slice sy.a sy.n sy.c) ∧ w.cell? ⟨b, 13, none⟩ = some (.int .i64 i) ∧ w.cell? ⟨b, 14, none⟩ = some (.int .i64 j) :=
  ⟨h.cell 4 (by omega) rfl, h.cell 5 (by omega) rfl, h.cell 11 (by omega) rfl, h.cell 12 (by omega) rfl, h.cell 13 (by omega) rfl, h.cell 14 (by omega) rfl⟩
theorem MOk.row {c : Cd} (hg : Gk c) (x y : List Int) (i : Nat) : ∀ (l : List Nat) {M : Ms}, MOk M → MOk (l.foldl (fun M j => cellM c x y i j M) M)
  | [], _, h => h
  | j :: l, _, h => MOk.row hg x y i l (h.cell hg x y i j)
set_option maxRecDepth 10000 in
set_option maxHeartbeats 4000000 in
theorem allCells_calls (hg : Gk c) (h : Rn dq w0 w b g gs c s sx sy sa x y 0 0 ms0) (hx : lettersB c x) (hy : lettersB c y) :
    Calls Tryz.prog 14 #[.pointer (some ⟨b, 0, none⟩)] w fun e w' => e = .returned (.tuple #[]) ∧ ∃ dq' i j, Rn dq' w0 w' b g gs c s sx sy sa x y i j (runM c x y) ∧ ∀ t z, dq t = some z → dq' t = some z := by
  obtain ⟨xa, xn, xc⟩ := sx
  obtain ⟨ya, yn, yc⟩ := sy
  have HG : Hid (Gk c) := hg
  have HX : Hid (lettersB c x ∧ lettersB c y) := ⟨hx, hy⟩
  obtain ⟨l1, l2⟩ := h.tb.least
  have hlo := hg.band.1
  have hhi := hg.band.2.1
  have HXn : Hid (x.length = xn ∧ y.length = yn) := ⟨h.hx.length, h.hy.length⟩
  have hX2 : (xn : Int) ≤ 1048576 := by rw [← HXn.out.1]; omega
  have hY2 : (yn : Int) ≤ 1048576 := by rw [← HXn.out.2]; omega
  have HRun : Hid (rowsTo c x y (xn + 1) = runM c x y) := by show _ = _; rw [← HXn.out.1]; rfl
  clear hx hy hg l1 l2
  have HL0 : Hid (Rn dq w0 w b g gs c s ⟨xa, xn, xc⟩ ⟨ya, yn, yc⟩ sa x y 0 0 ms0) := h
  clear h
  go_enter Tryz.func14, Tryz.ntmps14
  go_wp2_with fail
  refine (actsF_calls w).mono ?_
  rintro e w1 ⟨tq, rfl, hge, ht, hb1⟩
  have HL : Hid (Rn (updD dq tq) w0 w1 b g gs c s ⟨xa, xn, xc⟩ ⟨ya, yn, yc⟩ sa x y 0 0 ms0) := HL0.out.with hb1 ht
  have HDq : Hid (∀ t z, dq t = some z → updD dq tq t = some z) := fun t z hz => by
    unfold updD
    by_cases e : t = tq
    · exfalso
      have := lt_block (HL0.out.ds t z.1 z.2 hz).1
      omega
    · rw [if_neg e]; exact hz
  clear ht hb1 HL0 hge
  have hlb := HL.out.lt.1
  have f4 := HL.out.fz 13
  have c4 := HL.out.cell 13 (by omega) (v := .int .i64 (0 : Nat)) rfl
  have HL1 : Hid (Rn (updD dq tq) w0 (w1.setCell ⟨b, 13, none⟩ (.int .i64 0)) b g gs c s ⟨xa, xn, xc⟩ ⟨ya, yn, yc⟩ sa x y 0 0 ms0) := HL.out.putI 0
  clear HL
  go_wp2_with fail
  go_loopg [3] (xn + 1) (fun q _ wr => ∃ i j : Nat, i + q = xn + 1 ∧ Hid (Rn (updD dq tq) w0 wr b g gs c s ⟨xa, xn, xc⟩ ⟨ya, yn, yc⟩ sa x y i j (rowsTo c x y i) ∧ MOk (rowsTo c x y i)))
  case atStart => exact ⟨0, 0, by omega, ⟨HL1.out, MOk.start⟩⟩
  case round =>
    clear HL1 c4 f4 hlb
    obtain ⟨i, j, hiq, HL⟩ := hrel
    obtain ⟨d4, d5, d11, d12, d13, d14⟩ := HL.out.1.codeAt
    have hlb := HL.out.1.lt.1
    by_cases hlt : i ≤ xn
    · have hd : decide ((i : Int) ≤ (xn : Int)) = true := by simp; omega
      obtain ⟨hl1, hl2⟩ := hlo
      obtain ⟨hh1, hh2⟩ := hhi
      obtain ⟨L, hL⟩ : ∃ L : Int, min (yn : Int) ((i : Int) + c.hi) = L := ⟨_, rfl⟩
      obtain ⟨lo, hlo⟩ : ∃ lo : Nat, max 0 ((i : Int) + c.lo) = lo := ⟨(max 0 ((i : Int) + c.lo)).toNat, by omega⟩
      have HLL : Hid (rowHi c y i = L ∧ rowLo c i = lo) := ⟨by unfold rowHi; rw [HXn.out.2]; exact hL, by unfold rowLo; omega⟩
      have HJ : Hid (∀ n : Nat, Rn (updD dq tq) w0 ((wr.setCell ⟨b, 14, none⟩ (.int .i64 n))) b g gs c s ⟨xa, xn, xc⟩ ⟨ya, yn, yc⟩ sa x y i n (rowsTo c x y i)) := fun n => HL.out.1.putJ n
      have f14 := HL.out.1.fz 14
      have hmin : ∀ (ts : Array TypeId) (t : TypeId) (W : World), (Builtin.min_ ts t #[.int .i64 (yn : Int), .int .i64 ((i : Int) + c.hi)]).run Tryz.prog W = .ok (.int .i64 L) W := fun ts t W => by
        rw [run_min_int2, ← hL]; congr 2; omega
      have hmax : ∀ (ts : Array TypeId) (t : TypeId) (W : World), (Builtin.max_ ts t #[.int .i64 0, .int .i64 ((i : Int) + c.lo)]).run Tryz.prog W = .ok (.int .i64 (lo : Int)) W := fun ts t W => by
        rw [run_max_int2, ← hlo]; congr 2; omega
      have HLb : Hid (min (yn : Int) ((i : Int) + c.hi) = L) := hL
      have HLob : Hid (max 0 ((i : Int) + c.lo) = lo) := hlo
      clear hL hlo
      go_wp2_with fail
      go_quiet (fail)
      go_wp2_with fail
      go_quiet (fail)
      go_wp2_with fail
      go_region
      have HJ2 : Hid (∀ (m n : Nat), Rn (updD dq tq) w0 ((wr.drewN m).setCell ⟨b, 14, none⟩ (.int .i64 n)) b g gs c s ⟨xa, xn, xc⟩ ⟨ya, yn, yc⟩ sa x y i n (rowTo c x y i (rowsTo c x y i) lo) ∧ MOk (rowTo c x y i (rowsTo c x y i) lo)) := fun m n => by
        rw [← HLL.out.2, rowTo_start]
        exact ⟨(HL.out.1.next (below_drewN (Below.refl _ _) m)).putJ n, HL.out.2⟩
      have hgk : 0 < gk := by omega
      obtain ⟨go, rfl⟩ : ∃ go, go = gk := ⟨_, rfl⟩
      obtain ⟨wo, rfl⟩ : ∃ wo, wo = wr := ⟨_, rfl⟩
      have HLy : Hid (L ≤ (yn : Int)) := by show _ ≤ _; rw [← HLb.out]; omega
      clear HJ hmin hmax d4 d5 d11 d12 d13 d14 f14 hd HL hlb
      go_wp2_with fail
      go_loopg [60] ((L + 1 - lo).toNat) (fun q _ wi => ∃ jn : Nat, jn + q = lo + (L + 1 - lo).toNat ∧ lo ≤ jn ∧ Hid (Rn (updD dq tq) w0 wi b g gs c s ⟨xa, xn, xc⟩ ⟨ya, yn, yc⟩ sa x y i jn (rowTo c x y i (rowsTo c x y i) jn) ∧ MOk (rowTo c x y i (rowsTo c x y i) jn)))
      case atStart => exact ⟨lo, rfl, Nat.le_refl _, HJ2.out _ _⟩
      case round =>
        clear HJ2
        obtain ⟨jn, hjq, hlj, HK⟩ := hrel
        have c14 := HK.out.1.cell 14 (by omega) (v := .int .i64 jn) rfl
        have hlb := HK.out.1.lt.1
        by_cases hgt : 0 < gk
        · have hjL : (jn : Int) ≤ L := by omega
          have hd : decide ((jn : Int) ≤ L) = true := by simpa using hjL
          have HCl : Hid (Calls Tryz.prog 31 #[.pointer (some ⟨b, 0, none⟩), .slice (some ⟨tq, 0, none⟩) 9 9] wr fun e w' => e = .returned (.tuple #[]) ∧ Rn (updD dq tq) w0 w' b g gs c s ⟨xa, xn, xc⟩ ⟨ya, yn, yc⟩ sa x y i jn (cellM c x y i jn (rowTo c x y i (rowsTo c x y i) jn))) :=
            cell_calls HG.out (updD_self dq tq) HK.out.1 (by rw [HXn.out.1]; exact hlt) (by have := HLy.out; rw [HXn.out.2]; omega) HX.out.1 HX.out.2 HK.out.2
          have HMk : Hid (MOk (cellM c x y i jn (rowTo c x y i (rowsTo c x y i) jn))) := HK.out.2.cell HG.out x y i jn
          have HSt : Hid (rowTo c x y i (rowsTo c x y i) (jn + 1) = cellM c x y i jn (rowTo c x y i (rowsTo c x y i) jn)) := rowTo_step c x y i _ (by rw [HLL.out.2]; exact hlj)
          have hj20 : (jn : Int) ≤ 1048576 := by have := HLy.out; omega
          clear HK
          go_wp2_with fail
          refine HCl.out.mono ?_
          rintro e w3 ⟨rfl, hr3⟩
          have HK3 : Hid (Rn (updD dq tq) w0 w3 b g gs c s ⟨xa, xn, xc⟩ ⟨ya, yn, yc⟩ sa x y i jn (rowTo c x y i (rowsTo c x y i) (jn + 1)) ∧ MOk (rowTo c x y i (rowsTo c x y i) (jn + 1))) := by
            show _ ∧ _
            rw [HSt.out]; exact ⟨hr3, HMk.out⟩
          clear hr3 HCl HMk HSt c14 hlb
          have c14 := HK3.out.1.cell 14 (by omega) (v := .int .i64 jn) rfl
          have f14 := HK3.out.1.fz 14
          have hlb := HK3.out.1.lt.1
          have HK4 : Hid (Rn (updD dq tq) w0 (w3.setCell ⟨b, 14, none⟩ (.int .i64 ((jn : Int) + 1))) b g gs c s ⟨xa, xn, xc⟩ ⟨ya, yn, yc⟩ sa x y i (jn + 1) (rowTo c x y i (rowsTo c x y i) (jn + 1)) ∧ MOk (rowTo c x y i (rowsTo c x y i) (jn + 1))) := ⟨HK3.out.1.putJ (jn + 1), HK3.out.2⟩
          clear HK3
          go_wp2_with fail
          go_roundg (gk - 1)
          case rel => exact ⟨jn + 1, by omega, by omega, HK4⟩
          case measure => omega
        · have hjL : ¬ (jn : Int) ≤ L := by omega
          have hd : decide ((jn : Int) ≤ L) = false := by simpa using hjL
          have HE : Hid (rowTo c x y i (rowsTo c x y i) jn = rowsTo c x y (i + 1)) := by
            show _ = _
            rw [rowsTo_step]
            exact rowTo_end c x y i _ (by rw [HLL.out.2]; omega) (by rw [HLL.out.1]; omega) (by rw [HLL.out.1, HLL.out.2]; omega)
          rw [HE.out] at HK
          clear HE
          have c13 := HK.out.1.cell 13 (by omega) (v := .int .i64 i) rfl
          have f13 := HK.out.1.fz 13
          have hi20 : (i : Int) ≤ 1048576 := by omega
          have HK4 : Hid (Rn (updD dq tq) w0 (wr.setCell ⟨b, 13, none⟩ (.int .i64 ((i : Int) + 1))) b g gs c s ⟨xa, xn, xc⟩ ⟨ya, yn, yc⟩ sa x y (i + 1) jn (rowsTo c x y (i + 1)) ∧ MOk (rowsTo c x y (i + 1))) := ⟨HK.out.1.putI (i + 1), HK.out.2⟩
          clear HK
          go_wp2_with fail
          go_roundg (go - 1)
          case rel => exact ⟨i + 1, jn, by omega, HK4⟩
          case measure => omega
    · have hd : decide ((i : Int) ≤ (xn : Int)) = false := by simp; omega
      have hin : i = xn + 1 := by omega
      subst hin
      have HF : Hid (Rn (updD dq tq) w0 wr b g gs c s ⟨xa, xn, xc⟩ ⟨ya, yn, yc⟩ sa x y (xn + 1) j (runM c x y)) := by show Rn _ _ _ _ _ _ _ _ _ _ _ _ _ _ _ _; rw [← HRun.out]; exact HL.out.1
      clear HL
      go_wp2_with fail
      go_quiet (fail)
      go_wp2_with fail
      go_end0
      exact ⟨rfl, updD dq tq, _, _, HF.out.next (below_drewN (Below.refl _ _) _), HDq.out⟩
end
end Go.Proofs.YtnkfibahkmmnpaaGreat
