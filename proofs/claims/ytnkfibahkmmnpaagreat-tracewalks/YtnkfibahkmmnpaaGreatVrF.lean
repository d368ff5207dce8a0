/-
  The walk of rightArrows: a table of what was seen.
-/
import Derived.Test.YtnkfibahkmmnpaaGreatVrA
import Derived.Test.YtnkfibahkmmnpaaGreatDrw
import Derived.Deep.WholeRow
import Derived.Deep.Cut
import Derived.BigRegion
namespace Go.Proofs.YtnkfibahkmmnpaaGreat
open Go.RowKit

/-- Ten rows of sixteen: which plane and bit was seen. -/
def seenF (l : List Qd) (i : Nat) : Value := .bool (seenB l ((i / 16 : Nat) : Int) ((i % 16 : Nat) : Int))
def seenC (l : List Qd) : Array Value := Array.ofFn (n := 160) fun i => seenF l i.val
theorem seen_size (l : List Qd) : (seenC l).size = 160 := by simp [seenC]
theorem seen_get (l : List Qd) {i : Nat} (h : i < 160) : (seenC l)[i]? = some (seenF l i) := by simp [seenC, h]
theorem seen_nil : seenC [] = Array.replicate 160 (.bool false) := by
  apply Array.ext_getElem?
  intro j
  by_cases hj : j < 160
  · rw [seen_get _ hj]; simp [hj, seenF, seenB]
  · rw [Array.getElem?_eq_none (by rw [seen_size]; omega), Array.getElem?_eq_none (by simp; omega)]
theorem seen_set (l : List Qd) (a : Qd) (p q : Nat) (hp : a.1 = p) (hq : a.2.1 = q) (hq1 : q < 16) : (seenC l).setIfInBounds (p * 16 + q) (.bool true) = seenC (l ++ [a]) := by
  apply Array.ext_getElem?
  intro j
  rw [Array.getElem?_setIfInBounds]
  by_cases hj : j < 160
  · rw [seen_get _ hj, seen_get _ hj, seen_size]
    have hs : seenB (l ++ [a]) ((j / 16 : Nat) : Int) ((j % 16 : Nat) : Int) = (seenB l ((j / 16 : Nat) : Int) ((j % 16 : Nat) : Int) || ((p : Int) == ((j / 16 : Nat) : Int) && (q : Int) == ((j % 16 : Nat) : Int))) := by
      simp only [seenB, List.any_append, List.any_cons, List.any_nil, Bool.or_false, hp, hq]
    unfold seenF
    rw [hs]
    by_cases e : p * 16 + q = j
    · subst e
      have h1 : (p * 16 + q) / 16 = p := by omega
      have h2 : (p * 16 + q) % 16 = q := by omega
      rw [h1, h2]
      simp
      omega
    · rw [if_neg e]
      have : ((p : Int) == ((j / 16 : Nat) : Int) && (q : Int) == ((j % 16 : Nat) : Int)) = false := by
        cases h : ((p : Int) == ((j / 16 : Nat) : Int) && (q : Int) == ((j % 16 : Nat) : Int)) with
        | false => rfl
        | true => simp at h; omega
      rw [this, Bool.or_false]
  · rw [Array.getElem?_eq_none (by rw [seen_size]; omega), Array.getElem?_eq_none (by rw [seen_size]; omega)]
    simp [seen_size]
    omega
theorem zero68 : (∀ w, (zeroValue 149).run Tryz.prog w = .ok (.agg (Array.replicate 160 (.bool false))) w) ∧ (Tryz.prog.info? 149).map (·.size) = some 160 := zero_of_info (by kernel_rfl)
theorem arGo_step (pl : Int) (d : List Qd) (a : Qd) (l : List Qd) : arGo pl d (a :: l) = (arwB pl a && !seenB d a.1 a.2.1 && arGo pl (d ++ [a]) l) := rfl
theorem ar_false {pl : Int} {d : List Qd} {a : Qd} {l : List Qd} (h : arwB pl a = false ∨ seenB d a.1 a.2.1 = true) : arGo pl d (a :: l) = false := by
  rw [arGo_step]; rcases h with h | h <;> simp [h]
theorem ar_true {pl : Int} {d : List Qd} {a : Qd} {l : List Qd} (h : arwB pl a = true) (h2 : seenB d a.1 a.2.1 = false) : arGo pl d (a :: l) = arGo pl (d ++ [a]) l := by
  rw [arGo_step]; simp [h, h2]
theorem arw_bd {pl : Int} {a : Qd} (h : arwB pl a = true) : (1 ≤ a.1 ∧ a.1 ≤ pl - 1) ∧ (0 ≤ a.2.1 ∧ a.2.1 ≤ 15) ∧ (0 ≤ a.2.2.1 ∧ a.2.2.1 ≤ pl - 1) ∧ (1 ≤ a.2.2.2 ∧ a.2.2.2 ≤ 3) := by
  simp only [arwB, Bool.and_eq_true, inB_iff] at h
  exact ⟨h.1.1.1, h.1.1.2, h.1.2, h.2⟩
theorem cell_bl {W W2 : World} (hb : Below W.heap.size W W2) {p : Addr} {v : Value} (h : W.cell? p = some v) : W2.cell? p = some v := by
  rw [hb.cell (World.block_lt_of_cell? W _ h)]; exact h
structure Ra (w wr : World) (cs : Array Value) (l : List Qd) : Prop where
  low : Below w.heap.size w wr
  size : w.heap.size + 1 < wr.heap.size
  box : wr.heap[w.heap.size]? = some (.cells cs 26 (0, 0))
  tab : wr.heap[w.heap.size + 1]? = some (.cells (seenC l) 149 (0, 0))
theorem Ra.next {w wr w2 : World} {cs : Array Value} {l : List Qd} (h : Ra w wr cs l) (hb : Below wr.heap.size wr w2) : Ra w w2 cs l :=
  ⟨h.low.trans (hb.mono h.low.size), Nat.lt_of_lt_of_le h.size hb.size, by rw [hb.block _ (by have := h.size; omega)]; exact h.box, by rw [hb.block _ h.size]; exact h.tab⟩
theorem Ra.put {w wr : World} {cs : Array Value} {l : List Qd} (h : Ra w wr cs l) (a : Qd) (p q : Nat) (hp : a.1 = p) (hq : a.2.1 = q) (hq1 : q < 16) : Ra w (wr.setCell ⟨w.heap.size + 1, p * 16 + q, none⟩ (.bool true)) cs (l ++ [a]) :=
  ⟨h.low.setCell (p := ⟨w.heap.size + 1, p * 16 + q, none⟩) (Nat.le_succ _) _, by have := h.size; simp; omega, by rw [Below.heap_setCell _ _ _ _ (by simp)]; exact h.box, by rw [heap_setCell_same _ _ _ _ _ _ h.tab, seen_set l a p q hp hq hq1]⟩
theorem Ra.cell {w wr : World} {cs : Array Value} {l : List Qd} (h : Ra w wr cs l) (i : Nat) {v : Value} (hv : cs[i]? = some v) : wr.cell? ⟨w.heap.size, i, none⟩ = some v := cell_block h.box i v hv
theorem Ra.seen {w wr : World} {cs : Array Value} {l : List Qd} (h : Ra w wr cs l) (p q : Nat) (hp1 : p < 10) (hq1 : q < 16) : wr.cell? ⟨w.heap.size + 1, p * 16 + q, none⟩ = some (.bool (seenB l p q)) := by
  rw [cell_block h.tab _ _ (seen_get l (by omega))]
  unfold seenF
  rw [show (p * 16 + q) / 16 = p by omega, show (p * 16 + q) % 16 = q by omega]
set_option maxRecDepth 10000 in
set_option maxHeartbeats 2000000 in
theorem rightArrowsV_calls (c : Cd) (s : Ls) (w : World) (h : CdAt w c s) (hp0 : 1 ≤ c.planes) (hp1 : c.planes ≤ 10) :
    Calls Tryz.prog 50 #[.agg (cdCells c s)] w fun e w' => e = .returned (.bool (arsB c)) ∧ Below w.heap.size w w' := by
  have hz := zero68.1
  have HQ : Hid (QdsAt w s.r.a s.r.n c.arrows) := h.arrows
  have hm := h.arrows.short
  unfold maxLen at hm
  clear h
  rw [show cdCells c s = #[.int .i64 c.letters, .int .i64 c.planes, .int .i64 c.regs, .int .i64 c.lo, .int .i64 c.hi, .int .i64 c.most, .slice s.t.a s.t.n s.t.c, .slice s.k.a s.k.n s.k.c, .slice s.i.a s.i.n s.i.c, .slice s.r.a s.r.n s.r.c] from rfl]
  have H0 : Hid (Ra w ((w.alloc (.cells #[.int .i64 c.letters, .int .i64 c.planes, .int .i64 c.regs, .int .i64 c.lo, .int .i64 c.hi, .int .i64 c.most, .slice s.t.a s.t.n s.t.c, .slice s.k.a s.k.n s.k.c, .slice s.i.a s.i.n s.i.c, .slice s.r.a s.r.n s.r.c] 26)).alloc (.cells (Array.replicate 160 (.bool false)) 149)) #[.int .i64 c.letters, .int .i64 c.planes, .int .i64 c.regs, .int .i64 c.lo, .int .i64 c.hi, .int .i64 c.most, .slice s.t.a s.t.n s.t.c, .slice s.k.a s.k.n s.k.c, .slice s.i.a s.i.n s.i.c, .slice s.r.a s.r.n s.r.c] (c.arrows.take 0)) := by
    rw [List.take_zero]
    refine ⟨(below_new _).alloc (by simp) _, by simp, by rw [(below_new _).block _ (by simp)]; exact heap_alloc_new _ _, ?_⟩
    rw [seen_nil]
    have := heap_alloc_new (w.alloc (.cells #[.int .i64 c.letters, .int .i64 c.planes, .int .i64 c.regs, .int .i64 c.lo, .int .i64 c.hi, .int .i64 c.most, .slice s.t.a s.t.n s.t.c, .slice s.k.a s.k.n s.k.c, .slice s.i.a s.i.n s.i.c, .slice s.r.a s.r.n s.r.c] 26)) (.cells (Array.replicate 160 (.bool false)) 149)
    simpa using this
  go_enter Tryz.func50, Tryz.ntmps50
  go_wp2
  go_loopw [5, 9] (fun _ i wr => ∃ k : Nat, k ≤ s.r.n ∧ i = .int .i64 k ∧ arsB c = arGo c.planes (c.arrows.take k) (c.arrows.drop k) ∧ Ra w wr #[.int .i64 c.letters, .int .i64 c.planes, .int .i64 c.regs, .int .i64 c.lo, .int .i64 c.hi, .int .i64 c.most, .slice s.t.a s.t.n s.t.c, .slice s.k.a s.k.n s.k.c, .slice s.i.a s.i.n s.i.c, .slice s.r.a s.r.n s.r.c] (c.arrows.take k)) (fun _ i _ => s.r.n - (intOf i).toNat)
  case atStart => exact ⟨0, Nat.zero_le _, rfl, rfl, H0.out⟩
  case round =>
    obtain ⟨k, hk, rfl, hall, hbx⟩ := hrel
    have HA : Hid (arsB c = arGo c.planes (c.arrows.take k) (c.arrows.drop k)) := hall
    have HR : Hid (Ra w wr #[.int .i64 c.letters, .int .i64 c.planes, .int .i64 c.regs, .int .i64 c.lo, .int .i64 c.hi, .int .i64 c.most, .slice s.t.a s.t.n s.t.c, .slice s.k.a s.k.n s.k.c, .slice s.i.a s.i.n s.i.c, .slice s.r.a s.r.n s.r.c] (c.arrows.take k)) := hbx
    clear hall hbx H0 hz
    by_cases hlt : k < s.r.n
    · have hkl : k < c.arrows.length := by rw [HQ.out.length]; exact hlt
      obtain ⟨a, ha⟩ := get_lt (l := c.arrows) (k := k) hkl
      obtain ⟨bb, off, hra, hcs⟩ := (HQ.out.below HR.out.low).cells (by omega)
      obtain ⟨c1, c2, c3, c4⟩ := hcs k a ha
      have HD : Hid (c.arrows.drop k = a :: c.arrows.drop (k + 1)) := by
        show _ = _
        rw [List.drop_eq_getElem_cons hkl]
        rw [List.getElem?_eq_getElem hkl] at ha
        cases ha; rfl
      have HT : Hid (c.arrows.take (k + 1) = c.arrows.take k ++ [a]) := by
        show _ = _
        rw [List.take_succ_eq_append_getElem hkl]
        rw [List.getElem?_eq_getElem hkl] at ha
        cases ha; rfl
      rw [HD.out] at HA
      have p1 := HR.out.cell 1 (v := .int .i64 c.planes) rfl
      clear hcs ha hkl
      obtain ⟨x, y, z, u⟩ := a
      simp only at c1 c2 c3 c4
      have hsz := HR.out.size
      have HRA : Hid (s.r.a = some ⟨bb, off, none⟩) := hra
      rw [hra]
      clear hra
      obtain ⟨r1, h1⟩ : ∃ r, arwB c.planes (x, y, z, u) = r := ⟨_, rfl⟩
      have HW : Hid (arwB c.planes (x, y, z, u) = r1) := h1
      clear h1
      go_upto_region 5 with (fail)
      have HRb : Hid (Ra w (wr.alloc (.cells #[.int .i64 x, .int .i64 y, .int .i64 z, .int .i64 u] 79)).drew #[.int .i64 c.letters, .int .i64 c.planes, .int .i64 c.regs, .int .i64 c.lo, .int .i64 c.hi, .int .i64 c.most, .slice s.t.a s.t.n s.t.c, .slice s.k.a s.k.n s.k.c, .slice s.i.a s.i.n s.i.c, .slice s.r.a s.r.n s.r.c] (c.arrows.take k)) := (HR.out.next (below_new _)).next (below_drewN (Below.refl _ _) 1)
      have HB5 : Hid ((wr.alloc (.cells #[.int .i64 x, .int .i64 y, .int .i64 z, .int .i64 u] 79)).drew.heap[wr.heap.size]? = some (.cells #[.int .i64 x, .int .i64 y, .int .i64 z, .int .i64 u] 79 (0, 0))) := heap_alloc_new wr _
      have hsw : (wr.alloc (.cells #[.int .i64 x, .int .i64 y, .int .i64 z, .int .i64 u] 79)).heap.size = wr.heap.size + 1 := by simp
      clear c1 c2 c3 c4 p1
      generalize wr.alloc (.cells #[.int .i64 x, .int .i64 y, .int .i64 z, .int .i64 u] 79) = wd at *
      have HS : Hid (wd.drew.cell? ⟨wr.heap.size, 0, none⟩ = some (.int .i64 x) ∧ wd.drew.cell? ⟨wr.heap.size, 1, none⟩ = some (.int .i64 y) ∧ wd.drew.cell? ⟨wr.heap.size, 2, none⟩ = some (.int .i64 z) ∧ wd.drew.cell? ⟨wr.heap.size, 3, none⟩ = some (.int .i64 u) ∧ wd.drew.cell? ⟨w.heap.size, 1, none⟩ = some (.int .i64 c.planes)) := ⟨cell_block HB5.out 0 _ rfl, cell_block HB5.out 1 _ rfl, cell_block HB5.out 2 _ rfl, cell_block HB5.out 3 _ rfl, HRb.out.cell 1 rfl⟩
      cases r1
      · refine wp_region_Y (fun j => [].contains j) (fun W : World => W.cell? ⟨wr.heap.size, 0, none⟩ = some (.int .i64 x) ∧ W.cell? ⟨wr.heap.size, 1, none⟩ = some (.int .i64 y) ∧ W.cell? ⟨wr.heap.size, 2, none⟩ = some (.int .i64 z) ∧ W.cell? ⟨wr.heap.size, 3, none⟩ = some (.int .i64 u) ∧ W.cell? ⟨w.heap.size, 1, none⟩ = some (.int .i64 c.planes)) (by kernel_rfl) ?_
        refine wpAnyY_takeD (i := 0) 13 (v := .agg #[.int .i64 x, .int .i64 y, .int .i64 z, .int .i64 u]) rfl rfl (by kernel_rfl) (by kernel_rfl) (late_of (by kernel_rfl)) (by kernel_rfl) (by kernel_rfl) (fun _ _ _ h => h) HS.out (Or.inl ⟨by rfl, by (intro W hW; obtain ⟨e0, e1, e2, e3, e4⟩ := hW; go_simp)⟩) ?_
        simp only [Act.put, List.setIfInBounds_toArray, List.set_cons_succ, List.set_cons_zero]
        refine wpAnyY_pure (i := 1) 14 (v := .pointer (some ⟨w.heap.size, 1, none⟩)) rfl rfl (by kernel_rfl) (by kernel_rfl) (by kernel_rfl) (fun _ _ _ h => h) (Or.inl ⟨by rfl, by (intro W _; go_simp)⟩) ?_
        simp only [Act.put, List.setIfInBounds_toArray, List.set_cons_succ, List.set_cons_zero]
        refine wpAnyY_takeD (i := 2) 15 (v := .int .i64 c.planes) rfl rfl (by kernel_rfl) (by kernel_rfl) (late_of (by kernel_rfl)) (by kernel_rfl) (by kernel_rfl) (fun _ _ _ h => h) HS.out (Or.inl ⟨by rfl, by (intro W hW; obtain ⟨e0, e1, e2, e3, e4⟩ := hW; go_simp)⟩) ?_
        simp only [Act.put, List.setIfInBounds_toArray, List.set_cons_succ, List.set_cons_zero]
        refine wpAnyY_one (i := 3) rfl (by kernel_rfl) (fun Kc hKc => ?_)
        refine step_fnD 16 rfl (by rfl) 76 _ _ rfl Tryz.f76 Tryz.func76 (by kernel_rfl) (by kernel_rfl) #[.agg #[.int .i64 x, .int .i64 y, .int .i64 z, .int .i64 u], .int .i64 c.planes] (by simp [Act.eval]) (rightArrow_calls x y z u c.planes _ hp0 hp1) ?_
        rintro e wb ⟨rfl, hb⟩
        rw [HW.out]
        refine ⟨_, rfl, hKc.out _ _ (fun _ h => ⟨cell_bl hb (h.1), cell_bl hb (h.2.1), cell_bl hb (h.2.2.1), cell_bl hb (h.2.2.2.1), cell_bl hb (h.2.2.2.2)⟩) ?_⟩
        clear hKc Kc
        simp only [Act.put, List.setIfInBounds_toArray, List.set_cons_succ, List.set_cons_zero]
        have HRc : Hid (Ra w wb #[.int .i64 c.letters, .int .i64 c.planes, .int .i64 c.regs, .int .i64 c.lo, .int .i64 c.hi, .int .i64 c.most, .slice s.t.a s.t.n s.t.c, .slice s.k.a s.k.n s.k.c, .slice s.i.a s.i.n s.i.c, .slice s.r.a s.r.n s.r.c] (c.arrows.take k)) := HRb.out.next hb
        have HB6 : Hid (wb.heap[wr.heap.size]? = some (.cells #[.int .i64 x, .int .i64 y, .int .i64 z, .int .i64 u] 79 (0, 0))) := by show _ = _; rw [hb.block _ (show wr.heap.size < wd.heap.size by omega)]; exact HB5.out
        have HSw : Hid (wb.cell? ⟨wr.heap.size, 0, none⟩ = some (.int .i64 x) ∧ wb.cell? ⟨wr.heap.size, 1, none⟩ = some (.int .i64 y) ∧ wb.cell? ⟨wr.heap.size, 2, none⟩ = some (.int .i64 z) ∧ wb.cell? ⟨wr.heap.size, 3, none⟩ = some (.int .i64 u) ∧ wb.cell? ⟨w.heap.size, 1, none⟩ = some (.int .i64 c.planes)) := (fun h => ⟨cell_bl hb (h.1), cell_bl hb (h.2.1), cell_bl hb (h.2.2.1), cell_bl hb (h.2.2.2.1), cell_bl hb (h.2.2.2.2)⟩) HS.out
        clear hb HS
        refine wpAnyY_pure (i := 4) 17 (v := .bool true) rfl rfl (by kernel_rfl) (by kernel_rfl) (by kernel_rfl) (fun _ _ _ h => h) (Or.inl ⟨by rfl, by (intro W _; go_simp)⟩) ?_
        simp only [Act.put, List.setIfInBounds_toArray, List.set_cons_succ, List.set_cons_zero]
        refine wpAnyY_pure (i := 5) 18 (v := .bool true) rfl rfl (by kernel_rfl) (by kernel_rfl) (by kernel_rfl) (fun _ _ _ h => h) (Or.inl ⟨by rfl, by (intro W _; go_simp)⟩) ?_
        simp only [Act.put, List.setIfInBounds_toArray, List.set_cons_succ, List.set_cons_zero]
        refine wpAnyY_pure (i := 6) 19 (v := undef) rfl rfl (by kernel_rfl) (by kernel_rfl) (by kernel_rfl) (fun _ _ _ h => h) (Or.inr ⟨by rfl, rfl⟩) ?_
        simp only [Act.put, List.setIfInBounds_toArray, List.set_cons_succ, List.set_cons_zero]
        refine wpAnyY_pure (i := 7) 20 (v := undef) rfl rfl (by kernel_rfl) (by kernel_rfl) (by kernel_rfl) (fun _ _ _ h => h) (Or.inr ⟨by rfl, rfl⟩) ?_
        simp only [Act.put, List.setIfInBounds_toArray, List.set_cons_succ, List.set_cons_zero]
        refine wpAnyY_pure (i := 8) 21 (v := undef) rfl rfl (by kernel_rfl) (by kernel_rfl) (by kernel_rfl) (fun _ _ _ h => h) (Or.inr ⟨by rfl, rfl⟩) ?_
        simp only [Act.put, List.setIfInBounds_toArray, List.set_cons_succ, List.set_cons_zero]
        refine wpAnyY_pure (i := 9) 22 (v := undef) rfl rfl (by kernel_rfl) (by kernel_rfl) (by kernel_rfl) (fun _ _ _ h => h) (Or.inr ⟨by rfl, rfl⟩) ?_
        simp only [Act.put, List.setIfInBounds_toArray, List.set_cons_succ, List.set_cons_zero]
        refine wpAnyY_pure (i := 10) 23 (v := undef) rfl rfl (by kernel_rfl) (by kernel_rfl) (by kernel_rfl) (fun _ _ _ h => h) (Or.inr ⟨by rfl, rfl⟩) ?_
        simp only [Act.put, List.setIfInBounds_toArray, List.set_cons_succ, List.set_cons_zero]
        refine wpAnyY_pure (i := 11) 24 (v := undef) rfl rfl (by kernel_rfl) (by kernel_rfl) (by kernel_rfl) (fun _ _ _ h => h) (Or.inr ⟨by rfl, rfl⟩) ?_
        simp only [Act.put, List.setIfInBounds_toArray, List.set_cons_succ, List.set_cons_zero]
        refine wpAnyY_pure (i := 12) 25 (v := undef) rfl rfl (by kernel_rfl) (by kernel_rfl) (by kernel_rfl) (fun _ _ _ h => h) (Or.inr ⟨by rfl, rfl⟩) ?_
        simp only [Act.put, List.setIfInBounds_toArray, List.set_cons_succ, List.set_cons_zero]
        refine wpAnyY_pure (i := 13) 26 (v := .bool true) rfl rfl (by kernel_rfl) (by kernel_rfl) (by kernel_rfl) (fun _ _ _ h => h) (Or.inl ⟨by rfl, by (intro W _; go_simp)⟩) ?_
        simp only [Act.put, List.setIfInBounds_toArray, List.set_cons_succ, List.set_cons_zero]
        refine wpAnyY_done (by kernel_rfl) ?_ _
        go_wp2
        go_ret
        exact ⟨ret_bool (by rw [HA.out, ar_false (.inl HW.out)]), HRc.out.low⟩
      · have hbd := arw_bd HW.out
        obtain ⟨p, rfl⟩ : ∃ p : Nat, x = (p : Int) := ⟨x.toNat, by simp only at hbd; omega⟩
        obtain ⟨q, rfl⟩ : ∃ q : Nat, y = (q : Int) := ⟨y.toNat, by simp only at hbd; omega⟩
        have hp10 : p < 10 := by simp only at hbd; omega
        have hq16 : q < 16 := by simp only at hbd; omega
        clear hbd
        obtain ⟨sb, hsb⟩ : ∃ sb, seenB (c.arrows.take k) (p : Int) (q : Int) = sb := ⟨_, rfl⟩
        have HSB : Hid (seenB (c.arrows.take k) (p : Int) (q : Int) = sb) := hsb
        clear hsb
        have HS5 := HS.out
        clear HS
        have HS : Hid (wd.drew.cell? ⟨wr.heap.size, 0, none⟩ = some (.int .i64 p) ∧ wd.drew.cell? ⟨wr.heap.size, 1, none⟩ = some (.int .i64 q) ∧ wd.drew.cell? ⟨wr.heap.size, 2, none⟩ = some (.int .i64 z) ∧ wd.drew.cell? ⟨wr.heap.size, 3, none⟩ = some (.int .i64 u) ∧ wd.drew.cell? ⟨w.heap.size, 1, none⟩ = some (.int .i64 c.planes) ∧ wd.drew.cell? ⟨w.heap.size + 1, p * 16 + q, none⟩ = some (.bool sb)) := ⟨HS5.1, HS5.2.1, HS5.2.2.1, HS5.2.2.2.1, HS5.2.2.2.2, by rw [HRb.out.seen p q hp10 hq16, HSB.out]⟩
        clear HS5
        refine wp_region_Y (fun j => [].contains j) (fun W : World => W.cell? ⟨wr.heap.size, 0, none⟩ = some (.int .i64 p) ∧ W.cell? ⟨wr.heap.size, 1, none⟩ = some (.int .i64 q) ∧ W.cell? ⟨wr.heap.size, 2, none⟩ = some (.int .i64 z) ∧ W.cell? ⟨wr.heap.size, 3, none⟩ = some (.int .i64 u) ∧ W.cell? ⟨w.heap.size, 1, none⟩ = some (.int .i64 c.planes) ∧ W.cell? ⟨w.heap.size + 1, p * 16 + q, none⟩ = some (.bool sb)) (by kernel_rfl) ?_
        refine wpAnyY_takeD (i := 0) 13 (v := .agg #[.int .i64 p, .int .i64 q, .int .i64 z, .int .i64 u]) rfl rfl (by kernel_rfl) (by kernel_rfl) (late_of (by kernel_rfl)) (by kernel_rfl) (by kernel_rfl) (fun _ _ _ h => h) HS.out (Or.inl ⟨by rfl, by (intro W hW; obtain ⟨e0, e1, e2, e3, e4, e5⟩ := hW; go_simp)⟩) ?_
        simp only [Act.put, List.setIfInBounds_toArray, List.set_cons_succ, List.set_cons_zero]
        refine wpAnyY_pure (i := 1) 14 (v := .pointer (some ⟨w.heap.size, 1, none⟩)) rfl rfl (by kernel_rfl) (by kernel_rfl) (by kernel_rfl) (fun _ _ _ h => h) (Or.inl ⟨by rfl, by (intro W _; go_simp)⟩) ?_
        simp only [Act.put, List.setIfInBounds_toArray, List.set_cons_succ, List.set_cons_zero]
        refine wpAnyY_takeD (i := 2) 15 (v := .int .i64 c.planes) rfl rfl (by kernel_rfl) (by kernel_rfl) (late_of (by kernel_rfl)) (by kernel_rfl) (by kernel_rfl) (fun _ _ _ h => h) HS.out (Or.inl ⟨by rfl, by (intro W hW; obtain ⟨e0, e1, e2, e3, e4, e5⟩ := hW; go_simp)⟩) ?_
        simp only [Act.put, List.setIfInBounds_toArray, List.set_cons_succ, List.set_cons_zero]
        refine wpAnyY_one (i := 3) rfl (by kernel_rfl) (fun Kc hKc => ?_)
        refine step_fnD 16 rfl (by rfl) 76 _ _ rfl Tryz.f76 Tryz.func76 (by kernel_rfl) (by kernel_rfl) #[.agg #[.int .i64 p, .int .i64 q, .int .i64 z, .int .i64 u], .int .i64 c.planes] (by simp [Act.eval]) (rightArrow_calls p q z u c.planes _ hp0 hp1) ?_
        rintro e wb ⟨rfl, hb⟩
        rw [HW.out]
        refine ⟨_, rfl, hKc.out _ _ (fun _ h => ⟨cell_bl hb (h.1), cell_bl hb (h.2.1), cell_bl hb (h.2.2.1), cell_bl hb (h.2.2.2.1), cell_bl hb (h.2.2.2.2.1), cell_bl hb (h.2.2.2.2.2)⟩) ?_⟩
        clear hKc Kc
        simp only [Act.put, List.setIfInBounds_toArray, List.set_cons_succ, List.set_cons_zero]
        have HRc : Hid (Ra w wb #[.int .i64 c.letters, .int .i64 c.planes, .int .i64 c.regs, .int .i64 c.lo, .int .i64 c.hi, .int .i64 c.most, .slice s.t.a s.t.n s.t.c, .slice s.k.a s.k.n s.k.c, .slice s.i.a s.i.n s.i.c, .slice s.r.a s.r.n s.r.c] (c.arrows.take k)) := HRb.out.next hb
        have HB6 : Hid (wb.heap[wr.heap.size]? = some (.cells #[.int .i64 p, .int .i64 q, .int .i64 z, .int .i64 u] 79 (0, 0))) := by show _ = _; rw [hb.block _ (show wr.heap.size < wd.heap.size by omega)]; exact HB5.out
        have HSw : Hid (wb.cell? ⟨wr.heap.size, 0, none⟩ = some (.int .i64 p) ∧ wb.cell? ⟨wr.heap.size, 1, none⟩ = some (.int .i64 q) ∧ wb.cell? ⟨wr.heap.size, 2, none⟩ = some (.int .i64 z) ∧ wb.cell? ⟨wr.heap.size, 3, none⟩ = some (.int .i64 u) ∧ wb.cell? ⟨w.heap.size, 1, none⟩ = some (.int .i64 c.planes) ∧ wb.cell? ⟨w.heap.size + 1, p * 16 + q, none⟩ = some (.bool sb)) := (fun h => ⟨cell_bl hb (h.1), cell_bl hb (h.2.1), cell_bl hb (h.2.2.1), cell_bl hb (h.2.2.2.1), cell_bl hb (h.2.2.2.2.1), cell_bl hb (h.2.2.2.2.2)⟩) HS.out
        clear hb HS
        refine wpAnyY_pure (i := 4) 17 (v := .bool false) rfl rfl (by kernel_rfl) (by kernel_rfl) (by kernel_rfl) (fun _ _ _ h => h) (Or.inl ⟨by rfl, by (intro W _; go_simp)⟩) ?_
        simp only [Act.put, List.setIfInBounds_toArray, List.set_cons_succ, List.set_cons_zero]
        refine wpAnyY_pure (i := 5) 18 (v := .bool false) rfl rfl (by kernel_rfl) (by kernel_rfl) (by kernel_rfl) (fun _ _ _ h => h) (Or.inl ⟨by rfl, by (intro W _; go_simp)⟩) ?_
        simp only [Act.put, List.setIfInBounds_toArray, List.set_cons_succ, List.set_cons_zero]
        refine wpAnyY_pure (i := 6) 19 (v := .pointer (some ⟨wr.heap.size, 0, none⟩)) rfl rfl (by kernel_rfl) (by kernel_rfl) (by kernel_rfl) (fun _ _ _ h => h) (Or.inl ⟨by rfl, by (intro W _; go_simp)⟩) ?_
        simp only [Act.put, List.setIfInBounds_toArray, List.set_cons_succ, List.set_cons_zero]
        refine wpAnyY_takeD (i := 7) 20 (v := .int .i64 (p : Int)) rfl rfl (by kernel_rfl) (by kernel_rfl) (late_of (by kernel_rfl)) (by kernel_rfl) (by kernel_rfl) (fun _ _ _ h => h) HSw.out (Or.inl ⟨by rfl, by (intro W hW; obtain ⟨e0, e1, e2, e3, e4, e5⟩ := hW; go_simp)⟩) ?_
        simp only [Act.put, List.setIfInBounds_toArray, List.set_cons_succ, List.set_cons_zero]
        refine wpAnyY_pure (i := 8) 21 (v := .pointer (some ⟨wr.heap.size, 1, none⟩)) rfl rfl (by kernel_rfl) (by kernel_rfl) (by kernel_rfl) (fun _ _ _ h => h) (Or.inl ⟨by rfl, by (intro W _; go_simp)⟩) ?_
        simp only [Act.put, List.setIfInBounds_toArray, List.set_cons_succ, List.set_cons_zero]
        refine wpAnyY_takeD (i := 9) 22 (v := .int .i64 (q : Int)) rfl rfl (by kernel_rfl) (by kernel_rfl) (late_of (by kernel_rfl)) (by kernel_rfl) (by kernel_rfl) (fun _ _ _ h => h) HSw.out (Or.inl ⟨by rfl, by (intro W hW; obtain ⟨e0, e1, e2, e3, e4, e5⟩ := hW; go_simp)⟩) ?_
        simp only [Act.put, List.setIfInBounds_toArray, List.set_cons_succ, List.set_cons_zero]
        refine wpAnyY_pure (i := 10) 23 (v := .pointer (some ⟨w.heap.size + 1, p * 16, none⟩)) rfl rfl (by kernel_rfl) (by kernel_rfl) (by kernel_rfl) (fun _ _ _ h => h) (Or.inl ⟨by rfl, by (intro W _; go_simp; intro hh; exfalso; omega)⟩) ?_
        simp only [Act.put, List.setIfInBounds_toArray, List.set_cons_succ, List.set_cons_zero]
        refine wpAnyY_pure (i := 11) 24 (v := .pointer (some ⟨w.heap.size + 1, p * 16 + q, none⟩)) rfl rfl (by kernel_rfl) (by kernel_rfl) (by kernel_rfl) (fun _ _ _ h => h) (Or.inl ⟨by rfl, by (intro W _; go_simp; intro hh; exfalso; omega)⟩) ?_
        simp only [Act.put, List.setIfInBounds_toArray, List.set_cons_succ, List.set_cons_zero]
        refine wpAnyY_takeD (i := 12) 25 (v := .bool sb) rfl rfl (by kernel_rfl) (by kernel_rfl) (late_of (by kernel_rfl)) (by kernel_rfl) (by kernel_rfl) (fun _ _ _ h => h) HSw.out (Or.inl ⟨by rfl, by (intro W hW; obtain ⟨e0, e1, e2, e3, e4, e5⟩ := hW; go_simp)⟩) ?_
        simp only [Act.put, List.setIfInBounds_toArray, List.set_cons_succ, List.set_cons_zero]
        refine wpAnyY_pure (i := 13) 26 (v := .bool sb) rfl rfl (by kernel_rfl) (by kernel_rfl) (by kernel_rfl) (fun _ _ _ h => h) (Or.inl ⟨by rfl, by (intro W _; go_simp)⟩) ?_
        simp only [Act.put, List.setIfInBounds_toArray, List.set_cons_succ, List.set_cons_zero]
        refine wpAnyY_done (by kernel_rfl) ?_ _
        cases sb
        · have ys := HRc.out.seen p q hp10 hq16
          have yf := frozen_of_row wb (w.heap.size + 1) (p * 16 + q) _ _ HRc.out.tab
          have y0 := cell_block HB6.out 0 (.int .i64 (p : Int)) rfl
          have y1 := cell_block HB6.out 1 (.int .i64 (q : Int)) rfl
          go_wp2_with fail
          go_region
          go_wp2
          go_roundw
          case rel =>
            refine ⟨k + 1, by omega, by go_num, ?_, ?_⟩
            · rw [HA.out, ar_true HW.out HSB.out, HT.out]
            · rw [HT.out, ← HRA.out]
              exact (HRc.out.put ((p : Int), (q : Int), z, u) p q rfl rfl hq16).next (below_drewN (Below.refl _ _) 1)
          case measure => simp [intOf]; omega
        · go_wp2
          go_ret
          exact ⟨ret_bool (by rw [HA.out, ar_false (.inr HSB.out)]), HRc.out.low⟩
    · have hd : Hid (c.arrows.drop k = []) := List.drop_of_length_le (by rw [HQ.out.length]; omega)
      go_wp2
      go_ret
      exact ⟨ret_bool (by rw [HA.out, hd.out]; rfl), HR.out.low⟩

end Go.Proofs.YtnkfibahkmmnpaaGreat
