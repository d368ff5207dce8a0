/-
  The chapter's two sources, run. CheckValues: the walk.
-/
import Derived.Test.YtlaodgdlkkmmeaaGreatG48
namespace Go.Proofs.YtlaodgdlkkmmeaaGreat
open Go.RowKit Go.Deep Go.Maps

theorem its_any {S : Nat → Prop} {w : World} {l : List It} {ao : Option Addr} {n : Nat} (h : ItsAt true S w l ao n) : ItsAt false (fun _ => True) w l ao n := h.loose.base (fun _ _ _ => trivial)
set_option maxRecDepth 20000 in
set_option maxHeartbeats 1000000 in
theorem awake_calls (w : World) : Calls Tryz.prog 13 #[] w fun e w' => e = .returned (.bool true) ∧ Below w.heap.size w w' := by
  obtain ⟨c, hc1, hc2, hc3, hc4, hc5, hc6⟩ := srcA_check
  obtain ⟨LA, hLA⟩ : ∃ LA, (parseW srcA).1 = LA := ⟨_, rfl⟩
  obtain ⟨LB, hLB⟩ : ∃ LB, (parseW srcB).1 = LB := ⟨_, rfl⟩
  have HP1 : Hid (∀ w, Calls Tryz.prog 14 #[.string ⟨#[108, 101, 116, 32, 103, 32, 61, 32, 50, 32, 43, 32, 50, 59, 32, 97, 108, 112, 104, 97, 98, 101, 116, 32, 34, 65, 67, 34, 59, 32, 109, 97, 116, 99, 104, 32, 49, 59, 32, 109, 105, 115, 109, 97, 116, 99, 104, 32, 45, 103, 59, 32, 103, 97, 112, 32, 103, 44, 32, 49, 59, 32, 109, 111, 100, 101, 32, 102, 105, 116, 59]⟩] w fun e w' => TreePost (LA, 0, 0) w e w') := fun w => by
    have := parse_calls ⟨#[108, 101, 116, 32, 103, 32, 61, 32, 50, 32, 43, 32, 50, 59, 32, 97, 108, 112, 104, 97, 98, 101, 116, 32, 34, 65, 67, 34, 59, 32, 109, 97, 116, 99, 104, 32, 49, 59, 32, 109, 105, 115, 109, 97, 116, 99, 104, 32, 45, 103, 59, 32, 103, 97, 112, 32, 103, 44, 32, 49, 59, 32, 109, 111, 100, 101, 32, 102, 105, 116, 59]⟩ w
    have e : parseW srcA = (LA, 0, 0) := by rw [← hLA]; exact Prod.ext rfl srcA_parse
    rw [← e]; exact this
  have HP2 : Hid (∀ w, Calls Tryz.prog 14 #[.string ⟨#[108, 101, 116, 32, 97, 32, 61, 32, 98, 59, 32, 108, 101, 116, 32, 98, 32, 61, 32, 49, 59]⟩] w fun e w' => TreePost (LB, 0, 0) w e w') := fun w => by
    have := parse_calls ⟨#[108, 101, 116, 32, 97, 32, 61, 32, 98, 59, 32, 108, 101, 116, 32, 98, 32, 61, 32, 49, 59]⟩ w
    have e : parseW srcB = (LB, 0, 0) := by rw [← hLB]; exact Prod.ext rfl srcB_parse
    rw [← e]; exact this
  have HG1 : Hid (checkG (treeRight LA) LA = .ok c ∧ CkFit c) := by rw [← hLA]; exact ⟨hc1, hc2⟩
  have HG2 : Hid (checkG (treeRight LB) LB = .error (91, 8)) := by rw [← hLB]; exact srcB_check
  have HC : Hid (c.subst = [3, 4, 4, 3] ∧ c.least = 7 ∧ rightS (scOf c) = true ∧ c.pieces.map (gapS (valsB c.defs).1) = [(4, 1)]) := ⟨hc3, hc4, hc5, hc6⟩
  clear hc1 hc2 hc3 hc4 hc5 hc6 hLA hLB
  go_enter Tryz.func13, Tryz.ntmps13
  go_wp2_with fail
  refine (HP1.out w).mono ?_
  rintro e w1 ⟨a1, n1, k1, rfl, hn1, hi1, hb1⟩
  have HI1 : Hid (ItsAt false (fun _ => True) w1 LA a1 n1 ∧ n1 ≤ maxLen ∧ Below w.heap.size w w1) := ⟨its_any hi1, by unfold maxLen; omega, hb1⟩
  clear hn1 hi1 hb1
  go_wp2_with fail
  have hB1 : Below w1.heap.size w1 ((w1.alloc (.cells #[.slice a1 n1 k1] 24)).alloc (.cells #[.int .i64 0, .int .i64 0] 32)) := ((Below.refl _ _).alloc (Nat.le_refl _) _).alloc (by simp) _
  have f2 : ((w1.alloc (.cells #[.slice a1 n1 k1] 24)).alloc (.cells #[.int .i64 0, .int .i64 0] 32)).cell? ⟨w1.heap.size + 1, 0, none⟩ = some (.int .i64 0) := by
    have := heap_alloc_new (w1.alloc (.cells #[.slice a1 n1 k1] 24)) (.cells #[.int .i64 0, .int .i64 0] 32)
    rw [show (w1.alloc (.cells #[.slice a1 n1 k1] 24)).heap.size = w1.heap.size + 1 by simp] at this
    exact blk this rfl
  have HBW : Hid (Below w.heap.size w ((w1.alloc (.cells #[.slice a1 n1 k1] 24)).alloc (.cells #[.int .i64 0, .int .i64 0] 32))) := HI1.out.2.2.trans (hB1.mono HI1.out.2.2.size)
  refine (check_calls LA a1 n1 k1 _ (HI1.out.1.below hB1) HI1.out.2.1).mono ?_
  rw [HG1.out.1]
  rintro e w2 ⟨s, rfl, hb2, hs⟩
  have f2' := keepc hb2 f2
  have HBW2 : Hid (Below w.heap.size w w2) := HBW.out.trans (hb2.mono HBW.out.size)
  obtain ⟨da, dc, sa, sc, pa, pc, es, hsc⟩ := sch_sc hs HG1.out.2
  have HS2 : Hid (ScAt w2 (scOf c) da c.defs.length sa c.subst.length pa c.pieces.length) := hsc
  rw [es]
  clear f2 hb2 hs hsc es HBW hB1
  unfold scCells scOf flV
  simp only
  go_wp2_with fail
  have hB2 : Below w2.heap.size w2 ((w2.alloc (.cells #[.string (bs c.letters), .slice da c.defs.length dc, .slice sa c.subst.length sc, .slice pa c.pieces.length pc, .int .i64 c.mode, .bool c.banded, .int .i64 c.lo, .int .i64 c.hi, .int .i64 c.front, .int .i64 c.back, .int .i64 c.least] 29)).alloc (.cells #[.int .i64 0, .int .i64 0] 32)) := ((Below.refl _ _).alloc (Nat.le_refl _) _).alloc (by simp) _
  have fl : ((w2.alloc (.cells #[.string (bs c.letters), .slice da c.defs.length dc, .slice sa c.subst.length sc, .slice pa c.pieces.length pc, .int .i64 c.mode, .bool c.banded, .int .i64 c.lo, .int .i64 c.hi, .int .i64 c.front, .int .i64 c.back, .int .i64 c.least] 29)).alloc (.cells #[.int .i64 0, .int .i64 0] 32)).cell? ⟨w2.heap.size + 1, 0, none⟩ = some (.int .i64 0) ∧ ((w2.alloc (.cells #[.string (bs c.letters), .slice da c.defs.length dc, .slice sa c.subst.length sc, .slice pa c.pieces.length pc, .int .i64 c.mode, .bool c.banded, .int .i64 c.lo, .int .i64 c.hi, .int .i64 c.front, .int .i64 c.back, .int .i64 c.least] 29)).alloc (.cells #[.int .i64 0, .int .i64 0] 32)).cell? ⟨w2.heap.size + 1, 1, none⟩ = some (.int .i64 0) := by
    have := heap_alloc_new (w2.alloc (.cells #[.string (bs c.letters), .slice da c.defs.length dc, .slice sa c.subst.length sc, .slice pa c.pieces.length pc, .int .i64 c.mode, .bool c.banded, .int .i64 c.lo, .int .i64 c.hi, .int .i64 c.front, .int .i64 c.back, .int .i64 c.least] 29)) (.cells #[.int .i64 0, .int .i64 0] 32)
    rw [show (w2.alloc (.cells #[.string (bs c.letters), .slice da c.defs.length dc, .slice sa c.subst.length sc, .slice pa c.pieces.length pc, .int .i64 c.mode, .bool c.banded, .int .i64 c.lo, .int .i64 c.hi, .int .i64 c.front, .int .i64 c.back, .int .i64 c.least] 29)).heap.size = w2.heap.size + 1 by simp] at this
    exact ⟨blk this rfl, blk this rfl⟩
  have fb : ((w2.alloc (.cells #[.string (bs c.letters), .slice da c.defs.length dc, .slice sa c.subst.length sc, .slice pa c.pieces.length pc, .int .i64 c.mode, .bool c.banded, .int .i64 c.lo, .int .i64 c.hi, .int .i64 c.front, .int .i64 c.back, .int .i64 c.least] 29)).alloc (.cells #[.int .i64 0, .int .i64 0] 32)).cell? ⟨w2.heap.size, 2, none⟩ = some (.slice sa c.subst.length sc) ∧ ((w2.alloc (.cells #[.string (bs c.letters), .slice da c.defs.length dc, .slice sa c.subst.length sc, .slice pa c.pieces.length pc, .int .i64 c.mode, .bool c.banded, .int .i64 c.lo, .int .i64 c.hi, .int .i64 c.front, .int .i64 c.back, .int .i64 c.least] 29)).alloc (.cells #[.int .i64 0, .int .i64 0] 32)).cell? ⟨w2.heap.size, 10, none⟩ = some (.int .i64 7) := by
    have h1 : (w2.alloc (.cells #[.string (bs c.letters), .slice da c.defs.length dc, .slice sa c.subst.length sc, .slice pa c.pieces.length pc, .int .i64 c.mode, .bool c.banded, .int .i64 c.lo, .int .i64 c.hi, .int .i64 c.front, .int .i64 c.back, .int .i64 c.least] 29)).heap[w2.heap.size]? = _ := heap_alloc_new w2 (.cells #[.string (bs c.letters), .slice da c.defs.length dc, .slice sa c.subst.length sc, .slice pa c.pieces.length pc, .int .i64 c.mode, .bool c.banded, .int .i64 c.lo, .int .i64 c.hi, .int .i64 c.front, .int .i64 c.back, .int .i64 c.least] 29)
    have hb := (Below.refl (w2.alloc (.cells #[.string (bs c.letters), .slice da c.defs.length dc, .slice sa c.subst.length sc, .slice pa c.pieces.length pc, .int .i64 c.mode, .bool c.banded, .int .i64 c.lo, .int .i64 c.hi, .int .i64 c.front, .int .i64 c.back, .int .i64 c.least] 29)).heap.size (w2.alloc (.cells #[.string (bs c.letters), .slice da c.defs.length dc, .slice sa c.subst.length sc, .slice pa c.pieces.length pc, .int .i64 c.mode, .bool c.banded, .int .i64 c.lo, .int .i64 c.hi, .int .i64 c.front, .int .i64 c.back, .int .i64 c.least] 29))).alloc (Nat.le_refl _) (.cells #[.int .i64 0, .int .i64 0] 32)
    have x2 : (w2.alloc (.cells #[.string (bs c.letters), .slice da c.defs.length dc, .slice sa c.subst.length sc, .slice pa c.pieces.length pc, .int .i64 c.mode, .bool c.banded, .int .i64 c.lo, .int .i64 c.hi, .int .i64 c.front, .int .i64 c.back, .int .i64 c.least] 29)).cell? ⟨w2.heap.size, 2, none⟩ = some (.slice sa c.subst.length sc) := blk h1 rfl
    have x10 : (w2.alloc (.cells #[.string (bs c.letters), .slice da c.defs.length dc, .slice sa c.subst.length sc, .slice pa c.pieces.length pc, .int .i64 c.mode, .bool c.banded, .int .i64 c.lo, .int .i64 c.hi, .int .i64 c.front, .int .i64 c.back, .int .i64 c.least] 29)).cell? ⟨w2.heap.size, 10, none⟩ = some (.int .i64 c.least) := blk h1 rfl
    rw [HC.out.2.1] at x10
    rw [HC.out.2.1] at hb ⊢
    rw [HC.out.2.1] at x2
    exact ⟨keepc hb x2, keepc hb x10⟩
  have fa := keepc hB2 f2'
  have HBW3 : Hid (Below w.heap.size w ((w2.alloc (.cells #[.string (bs c.letters), .slice da c.defs.length dc, .slice sa c.subst.length sc, .slice pa c.pieces.length pc, .int .i64 c.mode, .bool c.banded, .int .i64 c.lo, .int .i64 c.hi, .int .i64 c.front, .int .i64 c.back, .int .i64 c.least] 29)).alloc (.cells #[.int .i64 0, .int .i64 0] 32))) := HBW2.out.trans (hB2.mono HBW2.out.size)
  refine (numbers_calls (scOf c) da c.defs.length dc sa c.subst.length sc pa c.pieces.length pc _ (HS2.out.below hB2)).mono ?_
  intro e w3 hp
  unfold NumPost at hp
  rw [HC.out.2.2.1, if_pos rfl] at hp
  obtain ⟨ma, mn, mc, ga, gn, gc, rfl, hb3, hmn, hgn, hos, hog⟩ := hp
  have hg1 : c.pieces.length = 1 := by have := congrArg List.length HC.out.2.2.2; simpa using this
  have hgn1 : gn = 1 := by rw [hgn]; exact hg1
  subst hgn1
  have hog2 : w3.ownsRow 0 81 2 (.slice ga 1 gc) 1 (pcRow [(4, 1)]) := by have := hog; rw [show (scOf c).pieces.map (gapS (valsB (scOf c).defs).1) = c.pieces.map (gapS (valsB c.defs).1) from rfl, HC.out.2.2.2] at this; exact this
  obtain ⟨g, cap', eg, _⟩ := owned_some hog2 (by omega)
  cases eg
  have q0 : w3.cell? ⟨g, 0, none⟩ = some (.int .i64 4) := (owned_cells hog2 0 (.int .i64 4) rfl).1
  have q1 : w3.cell? ⟨g, 1, none⟩ = some (.int .i64 1) := (owned_cells hog2 1 (.int .i64 1) rfl).1
  have p2 := keepc hb3 fa
  have p4 := keepc hb3 fl.1
  have p5 := keepc hb3 fl.2
  have p6 := keepc hb3 fb.1
  have p7 := keepc hb3 fb.2
  have HI3 : Hid (IntA w3 sa c.subst.length c.subst ∧ Below w.heap.size w w3) := ⟨(HS2.out.below hB2).subst.below hb3, HBW3.out.trans (hb3.mono HBW3.out.size)⟩
  clear f2' fa fl fb hB2 HBW3 HBW2 HS2 hb3 hmn hgn hos hog hog2 hg1
  generalize numS (valsB (scOf c).defs).1 (scOf c) = M at *
  unfold moCells
  have p6o : ∀ o, (w3.alloc o).cell? ⟨w2.heap.size, 2, none⟩ = some (.slice sa c.subst.length sc) := fun o => keepc ((Below.refl _ _).alloc (Nat.le_refl _) o) p6
  go_wp2_with fail
  have hB3 : Below w3.heap.size w3 ((w3.alloc (.cells #[.int .i64 M.letters, .slice ma mn mc, .slice (some ⟨g, 0, none⟩) 1 gc, .int .i64 M.mode, .bool M.banded, .int .i64 M.lo, .int .i64 M.hi, .int .i64 M.front, .int .i64 M.back, .int .i64 M.least] 52)).alloc (.cells #[.int .i64 3, .int .i64 4, .int .i64 4, .int .i64 3] 3)) := ((Below.refl _ _).alloc (Nat.le_refl _) _).alloc (by simp) _
  have sm : ((w3.alloc (.cells #[.int .i64 M.letters, .slice ma mn mc, .slice (some ⟨g, 0, none⟩) 1 gc, .int .i64 M.mode, .bool M.banded, .int .i64 M.lo, .int .i64 M.hi, .int .i64 M.front, .int .i64 M.back, .int .i64 M.least] 52)).alloc (.cells #[.int .i64 3, .int .i64 4, .int .i64 4, .int .i64 3] 3)).cell? ⟨w3.heap.size, 2, none⟩ = some (.slice (some ⟨g, 0, none⟩) 1 gc) := by
    have h1 : (w3.alloc (.cells #[.int .i64 M.letters, .slice ma mn mc, .slice (some ⟨g, 0, none⟩) 1 gc, .int .i64 M.mode, .bool M.banded, .int .i64 M.lo, .int .i64 M.hi, .int .i64 M.front, .int .i64 M.back, .int .i64 M.least] 52)).cell? ⟨w3.heap.size, 2, none⟩ = some (.slice (some ⟨g, 0, none⟩) 1 gc) := blk (heap_alloc_new w3 (.cells #[.int .i64 M.letters, .slice ma mn mc, .slice (some ⟨g, 0, none⟩) 1 gc, .int .i64 M.mode, .bool M.banded, .int .i64 M.lo, .int .i64 M.hi, .int .i64 M.front, .int .i64 M.back, .int .i64 M.least] 52)) rfl
    exact keepc ((Below.refl (w3.alloc (.cells #[.int .i64 M.letters, .slice ma mn mc, .slice (some ⟨g, 0, none⟩) 1 gc, .int .i64 M.mode, .bool M.banded, .int .i64 M.lo, .int .i64 M.hi, .int .i64 M.front, .int .i64 M.back, .int .i64 M.least] 52)).heap.size (w3.alloc (.cells #[.int .i64 M.letters, .slice ma mn mc, .slice (some ⟨g, 0, none⟩) 1 gc, .int .i64 M.mode, .bool M.banded, .int .i64 M.lo, .int .i64 M.hi, .int .i64 M.front, .int .i64 M.back, .int .i64 M.least] 52))).alloc (Nat.le_refl _) (.cells #[.int .i64 3, .int .i64 4, .int .i64 4, .int .i64 3] 3)) h1
  have HIn : Hid (IntA ((w3.alloc (.cells #[.int .i64 M.letters, .slice ma mn mc, .slice (some ⟨g, 0, none⟩) 1 gc, .int .i64 M.mode, .bool M.banded, .int .i64 M.lo, .int .i64 M.hi, .int .i64 M.front, .int .i64 M.back, .int .i64 M.least] 52)).alloc (.cells #[.int .i64 3, .int .i64 4, .int .i64 4, .int .i64 3] 3)) (some ⟨w3.heap.size + 1, 0, none⟩) 4 [3, 4, 4, 3]) := by
    have h := intA_new (W := (w3.alloc (.cells #[.int .i64 M.letters, .slice ma mn mc, .slice (some ⟨g, 0, none⟩) 1 gc, .int .i64 M.mode, .bool M.banded, .int .i64 M.lo, .int .i64 M.hi, .int .i64 M.front, .int .i64 M.back, .int .i64 M.least] 52))) (l := [3, 4, 4, 3]) (g := w3.heap.size + 1) (by simp) (by unfold maxLen; simp)
    simp only [itRow, List.map_cons, List.map_nil, List.length_cons, List.length_nil, Nat.zero_add, Nat.reduceAdd] at h
    exact h
  have HB3 : Hid (Below w.heap.size w ((w3.alloc (.cells #[.int .i64 M.letters, .slice ma mn mc, .slice (some ⟨g, 0, none⟩) 1 gc, .int .i64 M.mode, .bool M.banded, .int .i64 M.lo, .int .i64 M.hi, .int .i64 M.front, .int .i64 M.back, .int .i64 M.least] 52)).alloc (.cells #[.int .i64 3, .int .i64 4, .int .i64 4, .int .i64 3] 3))) := HI3.out.2.trans (hB3.mono HI3.out.2.size)
  refine (ints_calls c.subst [3, 4, 4, 3] sa c.subst.length sc (some ⟨w3.heap.size + 1, 0, none⟩) 4 4 _ (HI3.out.1.below hB3) HIn.out).mono ?_
  rw [show decide (c.subst = [3, 4, 4, 3]) = true by rw [HC.out.1]; rfl]
  rintro e w4 ⟨rfl, hb4⟩
  have r2 := keepc hb4 (keepc hB3 p2)
  have r4 := keepc hb4 (keepc hB3 p4)
  have r5 := keepc hb4 (keepc hB3 p5)
  have r7 := keepc hb4 (keepc hB3 p7)
  have rq0 := keepc hb4 (keepc hB3 q0)
  have rq1 := keepc hb4 (keepc hB3 q1)
  have rm := keepc hb4 sm
  have HB4 : Hid (Below w.heap.size w w4) := HB3.out.trans (hb4.mono HB3.out.size)
  clear hb4 hB3 sm HIn HB3 HI3 p2 p4 p5 p6 p7 q0 q1 p6o
  go_wp2_with fail
  refine (HP2.out w4).mono ?_
  rintro e w5 ⟨a5, n5, k5, rfl, hn5, hi5, hb5⟩
  have s2 := keepc hb5 r2
  have s4 := keepc hb5 r4
  have s5 := keepc hb5 r5
  have s7 := keepc hb5 r7
  have sq0 := keepc hb5 rq0
  have sq1 := keepc hb5 rq1
  have sm := keepc hb5 rm
  have HI5 : Hid (ItsAt false (fun _ => True) w5 LB a5 n5 ∧ n5 ≤ maxLen ∧ Below w.heap.size w w5) := ⟨its_any hi5, by unfold maxLen; omega, HB4.out.trans (hb5.mono HB4.out.size)⟩
  clear hn5 hi5 hb5 HB4 r2 r4 r5 r7 rq0 rq1 rm
  go_wp2_with fail
  have hB5 : Below w5.heap.size w5 ((w5.alloc (.cells #[.slice a5 n5 k5] 24)).alloc (.cells #[.int .i64 0, .int .i64 0] 32)) := ((Below.refl _ _).alloc (Nat.le_refl _) _).alloc (by simp) _
  have th : ((w5.alloc (.cells #[.slice a5 n5 k5] 24)).alloc (.cells #[.int .i64 0, .int .i64 0] 32)).cell? ⟨w5.heap.size + 1, 0, none⟩ = some (.int .i64 0) := by
    have := heap_alloc_new (w5.alloc (.cells #[.slice a5 n5 k5] 24)) (.cells #[.int .i64 0, .int .i64 0] 32)
    rw [show (w5.alloc (.cells #[.slice a5 n5 k5] 24)).heap.size = w5.heap.size + 1 by simp] at this
    exact blk this rfl
  have HBX : Hid (Below w.heap.size w ((w5.alloc (.cells #[.slice a5 n5 k5] 24)).alloc (.cells #[.int .i64 0, .int .i64 0] 32))) := HI5.out.2.2.trans (hB5.mono HI5.out.2.2.size)
  refine (check_calls LB a5 n5 k5 _ (HI5.out.1.below hB5) HI5.out.2.1).mono ?_
  rw [HG2.out]
  rintro e w6 ⟨_, rfl, hb6⟩
  have u2 : ∀ o o2, ((w6.alloc o).alloc o2).cell? ⟨w1.heap.size + 1, 0, none⟩ = some (.int .i64 0) := fun o o2 => keepc (((Below.refl _ _).alloc (Nat.le_refl _) o).alloc (by simp) o2) (keepc hb6 (keepc hB5 s2))
  have u4 : ∀ o o2, ((w6.alloc o).alloc o2).cell? ⟨w2.heap.size + 1, 0, none⟩ = some (.int .i64 0) := fun o o2 => keepc (((Below.refl _ _).alloc (Nat.le_refl _) o).alloc (by simp) o2) (keepc hb6 (keepc hB5 s4))
  have u5 : ∀ o o2, ((w6.alloc o).alloc o2).cell? ⟨w2.heap.size + 1, 1, none⟩ = some (.int .i64 0) := fun o o2 => keepc (((Below.refl _ _).alloc (Nat.le_refl _) o).alloc (by simp) o2) (keepc hb6 (keepc hB5 s5))
  have u7 : ∀ o o2, ((w6.alloc o).alloc o2).cell? ⟨w2.heap.size, 10, none⟩ = some (.int .i64 7) := fun o o2 => keepc (((Below.refl _ _).alloc (Nat.le_refl _) o).alloc (by simp) o2) (keepc hb6 (keepc hB5 s7))
  have uq0 : ∀ o o2, ((w6.alloc o).alloc o2).cell? ⟨g, 0, none⟩ = some (.int .i64 4) := fun o o2 => keepc (((Below.refl _ _).alloc (Nat.le_refl _) o).alloc (by simp) o2) (keepc hb6 (keepc hB5 sq0))
  have uq1 : ∀ o o2, ((w6.alloc o).alloc o2).cell? ⟨g, 1, none⟩ = some (.int .i64 1) := fun o o2 => keepc (((Below.refl _ _).alloc (Nat.le_refl _) o).alloc (by simp) o2) (keepc hb6 (keepc hB5 sq1))
  have um : ∀ o o2, ((w6.alloc o).alloc o2).cell? ⟨w3.heap.size, 2, none⟩ = some (.slice (some ⟨g, 0, none⟩) 1 gc) := fun o o2 => keepc (((Below.refl _ _).alloc (Nat.le_refl _) o).alloc (by simp) o2) (keepc hb6 (keepc hB5 sm))
  have uh : ∀ o o2, ((w6.alloc o).alloc o2).cell? ⟨w5.heap.size + 1, 0, none⟩ = some (.int .i64 0) := fun o o2 => keepc (((Below.refl _ _).alloc (Nat.le_refl _) o).alloc (by simp) o2) (keepc hb6 th)
  have HB6 : Hid (∀ o o2, Below w.heap.size w ((w6.alloc o).alloc o2)) := fun o o2 => by
    have h6 := HBX.out.trans (hb6.mono HBX.out.size)
    exact h6.trans ((((Below.refl _ _).alloc (Nat.le_refl _) o).alloc (by simp) o2).mono h6.size)
  clear hb6 HBX th hB5 HI5 s2 s4 s5 s7 sq0 sq1 sm
  unfold flV
  simp only
  go_wp2
  go_ret
  exact ⟨rfl, HB6.out _ _⟩
end Go.Proofs.YtlaodgdlkkmmeaaGreat

namespace Go.Proofs.YtlaodgdlkkmmeaaGreat
open Go.RowKit Go.Deep Go.Maps

def zDf : Df := ⟨0, 0, 0, 0⟩
theorem made_df (n : Nat) : (madeCells #[.int .i64 0, .int .i64 0, .int .i64 0, .int .i64 0] n).toList = List.replicate n (.int .i64 0) := by
  apply List.ext_getElem
  · simp [madeCells]
  · intro i h1 h2
    simp only [madeCells, Array.toList_map, List.getElem_map, List.getElem_replicate]
    have : i % 4 < 4 := Nat.mod_lt _ (by decide)
    have h : i % 4 = 0 ∨ i % 4 = 1 ∨ i % 4 = 2 ∨ i % 4 = 3 := by omega
    rcases h with h | h | h | h <;> simp [h]
theorem zero_df : ∀ m : Nat, List.replicate (m * 4) (Value.int .i64 0) = dfRow (List.replicate m zDf)
  | 0 => rfl
  | m + 1 => by
    rw [List.replicate_succ, show (m + 1) * 4 = m * 4 + 1 + 1 + 1 + 1 by omega, List.replicate_succ, List.replicate_succ, List.replicate_succ, List.replicate_succ, zero_df m]
    rfl
/-- The copy as far as it goes. -/
def cpL (l : List Df) (n k : Nat) : List Df := l.take k ++ List.replicate (n + 2 - k) zDf
theorem cpL_get (l : List Df) {n k : Nat} (hl : l.length = n) (hk : k < n) : (cpL l n k)[k]? = some zDf := by
  unfold cpL
  have h1 : (l.take k).length = k := by simp; omega
  rw [List.getElem?_append_right (by omega), h1, Nat.sub_self, List.getElem?_replicate, if_pos (by omega)]
theorem cpL_set (l : List Df) {n k : Nat} {d : Df} (hl : l.length = n) (hd : l[k]? = some d) (hk : k < n) : (cpL l n k).set k d = cpL l n (k + 1) := by
  unfold cpL
  have h1 : (l.take k).length = k := by simp; omega
  rw [List.set_append_right _ _ (by omega), h1, Nat.sub_self]
  obtain ⟨h2, h3⟩ := List.getElem?_eq_some_iff.1 hd
  rw [List.take_succ_eq_append_getElem h2, h3, show n + 2 - k = (n + 2 - (k + 1)) + 1 by omega, List.replicate_succ]
  simp
theorem cpL_end (l : List Df) {n : Nat} (hl : l.length = n) : cpL l n n = l ++ [zDf, zDf] := by
  unfold cpL
  rw [List.take_of_length_le (by omega), show n + 2 - n = 2 by omega]
  rfl
theorem own4 {W : World} {base g m cap : Nat} {L : List Df} (h : W.ownsRow base 43 4 (.slice (some ⟨g, 0, none⟩) m cap) m (dfRow L)) {k : Nat} {a : Df} (ha : L[k]? = some a) (op num x y : Int) :
    ((((W.setCell ⟨g, k * 4, none⟩ (.int .i64 op)).setCell ⟨g, k * 4 + 1, none⟩ (.int .i64 num)).setCell ⟨g, k * 4 + 2, none⟩ (.int .i64 x)).setCell ⟨g, k * 4 + 3, none⟩ (.int .i64 y)).ownsRow base 43 4 (.slice (some ⟨g, 0, none⟩) m cap) m (dfRow (L.set k ⟨op, num, x, y⟩)) := by
  have hk : k < L.length := (List.getElem?_eq_some_iff.1 ha).1
  have s := owned_set (owned_set (owned_set (owned_set h (k * 4) (.int .i64 op)) (k * 4 + 1) (.int .i64 num)) (k * 4 + 2) (.int .i64 x)) (k * 4 + 3) (.int .i64 y)
  have e1 : (dfRow L).set (k * 4) (.int .i64 op) = dfRow (L.set k ⟨op, a.num, a.a, a.b⟩) := flat_set (f := dfCells) (s := 4) (fun _ => rfl) L k a ⟨op, a.num, a.a, a.b⟩ 0 _ ha (by omega) rfl
  have e2 : (dfRow (L.set k ⟨op, a.num, a.a, a.b⟩)).set (k * 4 + 1) (.int .i64 num) = dfRow ((L.set k ⟨op, a.num, a.a, a.b⟩).set k ⟨op, num, a.a, a.b⟩) := flat_set (f := dfCells) (s := 4) (fun _ => rfl) _ k ⟨op, a.num, a.a, a.b⟩ ⟨op, num, a.a, a.b⟩ 1 _ (by simp [hk]) (by omega) rfl
  rw [List.set_set] at e2
  have e3 : (dfRow (L.set k ⟨op, num, a.a, a.b⟩)).set (k * 4 + 2) (.int .i64 x) = dfRow ((L.set k ⟨op, num, a.a, a.b⟩).set k ⟨op, num, x, a.b⟩) := flat_set (f := dfCells) (s := 4) (fun _ => rfl) _ k ⟨op, num, a.a, a.b⟩ ⟨op, num, x, a.b⟩ 2 _ (by simp [hk]) (by omega) rfl
  rw [List.set_set] at e3
  have e4 : (dfRow (L.set k ⟨op, num, x, a.b⟩)).set (k * 4 + 3) (.int .i64 y) = dfRow ((L.set k ⟨op, num, x, a.b⟩).set k ⟨op, num, x, y⟩) := flat_set (f := dfCells) (s := 4) (fun _ => rfl) _ k ⟨op, num, x, a.b⟩ ⟨op, num, x, y⟩ 3 _ (by simp [hk]) (by omega) rfl
  rw [List.set_set] at e4
  rw [e1, e2, e3, e4] at s
  exact s
theorem own_dfs {W : World} {base g m cap n : Nat} {l zs : List Df} (h : W.ownsRow base 43 4 (.slice (some ⟨g, 0, none⟩) m cap) m (dfRow (l ++ zs))) (hl : l.length = n) (hs : n ≤ maxLen) (hf : ∀ d ∈ l, InR d.num) : DfsAt W (some ⟨g, 0, none⟩) n l := by
  refine ⟨hl, hs, hf, fun h0 => ⟨g, 0, rfl, fun i d hi => ?_⟩⟩
  have hi2 : (l ++ zs)[i]? = some d := by rw [List.getElem?_append_left (List.getElem?_eq_some_iff.1 hi).1]; exact hi
  have c : ∀ (j : Nat) (u : Value), (dfCells d)[j]? = some u → W.cell? ⟨g, 0 + (i * 4 + j), none⟩ = some u := fun j u hu => by
    rw [Nat.zero_add]
    exact (owned_cells h _ _ (flat_get (s := 4) (fun _ => rfl) (l ++ zs) i d j u hi2 hu)).1
  exact ⟨c 0 _ rfl, c 1 _ rfl, c 2 _ rfl, c 3 _ rfl⟩
set_option maxRecDepth 100000 in
set_option maxHeartbeats 2000000 in
theorem values_walk (l : List Df) (la : Option Addr) (n lc : Nat) (more : List Df) (ma : Option Addr) (mn mc : Nat) (w : World) (h : DfsAt w la n l) (hn : n ≤ 4398046511104) (h2 : DfsAt w ma mn more) :
    Calls Tryz.prog 5 #[.slice la n lc, .slice ma mn mc] w fun e w' => e = .returned (.bool true) ∧ Below w.heap.size w w' := by
  have HL : Hid (DfsAt w la n l) := h
  have HM : Hid (DfsAt w ma mn more) := h2
  have hmn := h2.short
  unfold maxLen at hmn
  clear h h2
  obtain ⟨i0, hi, hz0, hz1, hz2⟩ := info_parts info43
  go_enter Tryz.func5, Tryz.ntmps5
  go_wp2_with fail
  refine (awake_calls w).mono ?_
  rintro e w2 ⟨rfl, hb2⟩
  have HB2 : Hid (Below w.heap.size w w2) := hb2
  have hs2 : w.heap.size ≤ w2.heap.size := hb2.size
  clear hb2
  go_wp2_with (at_make; refine wpList_make_full _ rfl _ _ 25 rfl w.heap.size 43 i0 (.agg #[.int .i64 0, .int .i64 0, .int .i64 0, .int .i64 0]) 4 Tryz.underlying25 hi hz0 hz1 .i64 .i64 _ _ (n + 2) rfl rfl (by omega) (by omega) (by rw [hz2]; omega) (by unfold maxLen; omega) hs2 ?_)
  intro w3 hown3 hgrow3
  rw [made_df, zero_df] at hown3
  have HO3 : Hid (w3.ownsRow w.heap.size 43 4 (.slice (some ⟨w2.heap.size, 0, none⟩) (n + 2) (n + 2)) (n + 2) (dfRow (cpL l n 0)) ∧ Below w.heap.size w w3) := by
    refine ⟨?_, HB2.out.grown hgrow3 hs2 (by intro k hk; cases hk)⟩
    unfold cpL
    rw [List.take_zero, List.nil_append, Nat.sub_zero]
    exact hown3
  clear hown3 hgrow3 HB2
  generalize w2.heap.size = g at *
  go_wp2_with fail
  go_loopw [7] (fun i wr => ∃ k : Nat, k ≤ n ∧ i = .int .i64 k ∧ Hid (wr.ownsRow w.heap.size 43 4 (.slice (some ⟨g, 0, none⟩) (n + 2) (n + 2)) (n + 2) (dfRow (cpL l n k)) ∧ Below w.heap.size w wr)) (fun i _ => n - (intOf i).toNat)
  case atStart => exact ⟨0, Nat.zero_le _, rfl, HO3.out⟩
  case round =>
    clear HO3
    obtain ⟨k, hk, rfl, HO⟩ := hrel
    by_cases hlt : k < n
    · obtain ⟨d, hdi⟩ : ∃ d, l[k]? = some d := ⟨l[k]'(by rw [HL.out.length]; exact hlt), List.getElem?_eq_getElem _⟩
      obtain ⟨g1, o1, hla, hcs⟩ := HL.out.cells (by omega)
      subst hla
      obtain ⟨b0, b1, b2, b3⟩ := hcs k d hdi
      clear hcs
      have hz := flat_get (f := dfCells) (s := 4) (fun _ => rfl) (cpL l n k) k zDf
      have hg0 := cpL_get l HL.out.length hlt
      have hW : ∀ W, Below wr.heap.size wr W → (W.cell? ⟨g1, o1 + k * 4, none⟩ = some (.int .i64 d.op) ∧ W.cell? ⟨g1, o1 + k * 4 + 1, none⟩ = some (.int .i64 d.num) ∧ W.cell? ⟨g1, o1 + k * 4 + 2, none⟩ = some (.int .i64 d.a) ∧ W.cell? ⟨g1, o1 + k * 4 + 3, none⟩ = some (.int .i64 d.b)) := fun W hW =>
        ⟨keepc hW (keepc HO.out.2 b0), keepc hW (keepc HO.out.2 b1), keepc hW (keepc HO.out.2 b2), keepc hW (keepc HO.out.2 b3)⟩
      have hq : ∀ W, Below wr.heap.size wr W → (W.cell? ⟨g, k * 4, none⟩ = some (.int .i64 0) ∧ W.cell? ⟨g, k * 4 + 1, none⟩ = some (.int .i64 0) ∧ W.cell? ⟨g, k * 4 + 2, none⟩ = some (.int .i64 0) ∧ W.cell? ⟨g, k * 4 + 3, none⟩ = some (.int .i64 0)) ∧ (W.frozen? ⟨g, k * 4, none⟩ = false ∧ W.frozen? ⟨g, k * 4 + 1, none⟩ = false ∧ W.frozen? ⟨g, k * 4 + 2, none⟩ = false ∧ W.frozen? ⟨g, k * 4 + 3, none⟩ = false) := fun W hW => by
        have ho := owned_below HO.out.1 hW
        have z0 := owned_cells ho _ _ (hz 0 _ hg0 rfl)
        have z1 := owned_cells ho _ _ (hz 1 _ hg0 rfl)
        have z2 := owned_cells ho _ _ (hz 2 _ hg0 rfl)
        have z3 := owned_cells ho _ _ (hz 3 _ hg0 rfl)
        exact ⟨⟨z0.1, z1.1, z2.1, z3.1⟩, z0.2, z1.2, z2.2, z3.2⟩
      obtain ⟨x0, x1, x2, x3⟩ := hW wr (Below.refl _ _)
      obtain ⟨⟨y0, y1, y2, y3⟩, v0, v1, v2, v3⟩ := hq wr (Below.refl _ _)
      obtain ⟨op, num, a, b⟩ := d
      simp only at x0 x1 x2 x3
      have HN : Hid (∀ W, Below wr.heap.size wr W → ((((W.setCell ⟨g, k * 4, none⟩ (.int .i64 op)).setCell ⟨g, k * 4 + 1, none⟩ (.int .i64 num)).setCell ⟨g, k * 4 + 2, none⟩ (.int .i64 a)).setCell ⟨g, k * 4 + 3, none⟩ (.int .i64 b)).ownsRow w.heap.size 43 4 (.slice (some ⟨g, 0, none⟩) (n + 2) (n + 2)) (n + 2) (dfRow (cpL l n (k + 1))) ∧ Below w.heap.size w ((((W.setCell ⟨g, k * 4, none⟩ (.int .i64 op)).setCell ⟨g, k * 4 + 1, none⟩ (.int .i64 num)).setCell ⟨g, k * 4 + 2, none⟩ (.int .i64 a)).setCell ⟨g, k * 4 + 3, none⟩ (.int .i64 b))) := fun W hW => by
        have ho := own4 (owned_below HO.out.1 hW) hg0 op num a b
        rw [cpL_set l HL.out.length hdi hlt] at ho
        have hbw : Below w.heap.size w W := HO.out.2.trans (hW.mono HO.out.2.size)
        have a1 : ∀ (W : World) (i : Nat) (v : Value), Below w.heap.size w W → Below w.heap.size w (W.setCell ⟨g, i, none⟩ v) := fun W i v h => h.setCell (p := ⟨g, i, none⟩) hs2 v
        exact ⟨ho, a1 _ _ _ (a1 _ _ _ (a1 _ _ _ (a1 _ _ _ hbw)))⟩
      clear hW hq b0 b1 b2 b3 hdi hz hg0
      go_wp2_with fail
      go_roundw
      case rel => exact ⟨k + 1, by omega, by go_num, HN.out wr (Below.refl _ _)⟩
      case measure => simp [intOf]; omega
    · have hkn : k = n := by omega
      subst hkn
      have HO4 : Hid (wr.ownsRow w.heap.size 43 4 (.slice (some ⟨g, 0, none⟩) (k + 2) (k + 2)) (k + 2) (dfRow (l ++ [zDf, zDf]))) := by
        have := HO.out.1
        rw [cpL_end l HL.out.length] at this
        exact this
      have HB4 : Hid (Below w.heap.size w wr) := HO.out.2
      clear HO
      have HTk : Hid (∀ W, W.ownsRow w.heap.size 43 4 (.slice (some ⟨g, 0, none⟩) (k + 2) (k + 2)) (k + 2) (dfRow (l ++ [zDf, zDf])) → DfsAt W (some ⟨g, 0, none⟩) k l) := fun W hW => own_dfs hW HL.out.length HL.out.short HL.out.fits
      go_wp2_with fail
      refine (values_calls l (some ⟨g, 0, none⟩) k (k + 2) wr (HTk.out _ HO4.out)).mono ?_
      rintro e w5 ⟨a5, c5, rfl, ho5, hb5⟩
      have HS5 : Hid (w5.ownsRow w.heap.size 43 4 (.slice (some ⟨g, 0, none⟩) (k + 2) (k + 2)) (k + 2) (dfRow (l ++ [zDf, zDf])) ∧ Below w.heap.size w w5 ∧ IntA w5 a5 (valsB l).1.length (valsB l).1) := ⟨owned_below HO4.out hb5, HB4.out.trans (hb5.mono HB4.out.size), intA_own ho5 rfl (by unfold maxLen; have := valsB_few l; omega)⟩
      clear ho5 hb5 HO4 HB4
      go_wp2_with fail
      refine (refvalues_calls l la k lc w5 (HL.out.below HS5.out.2.1)).mono ?_
      rintro e w6 ⟨a6, c6, rfl, ho6, hb6⟩
      have HS6 : Hid (w6.ownsRow w.heap.size 43 4 (.slice (some ⟨g, 0, none⟩) (k + 2) (k + 2)) (k + 2) (dfRow (l ++ [zDf, zDf])) ∧ Below w.heap.size w w6 ∧ IntA w6 a5 (valsB l).1.length (valsB l).1 ∧ IntA w6 a6 (valsB l).1.length (valsB l).1) := ⟨owned_below HS5.out.1 hb6, HS5.out.2.1.trans (hb6.mono HS5.out.2.1.size), HS5.out.2.2.below hb6, intA_own ho6 rfl (by unfold maxLen; have := valsB_few l; omega)⟩
      clear ho6 hb6 HS5
      go_wp2_with fail
      refine (values_calls more ma mn mc w6 (HM.out.below HS6.out.2.1)).mono ?_
      rintro e w7 ⟨a7, c7, rfl, ho7, hb7⟩
      have HS7 : Hid (w7.ownsRow w.heap.size 43 4 (.slice (some ⟨g, 0, none⟩) (k + 2) (k + 2)) (k + 2) (dfRow (l ++ [zDf, zDf])) ∧ Below w.heap.size w w7 ∧ IntA w7 a5 (valsB l).1.length (valsB l).1 ∧ IntA w7 a6 (valsB l).1.length (valsB l).1 ∧ IntA w7 a7 (valsB more).1.length (valsB more).1) := ⟨owned_below HS6.out.1 hb7, HS6.out.2.1.trans (hb7.mono HS6.out.2.1.size), HS6.out.2.2.1.below hb7, HS6.out.2.2.2.below hb7, intA_own ho7 rfl (by unfold maxLen; have := valsB_few more; omega)⟩
      clear ho7 hb7 HS6
      go_wp2_with fail
      refine (refvalues_calls more ma mn mc w7 (HM.out.below HS7.out.2.1)).mono ?_
      rintro e w8 ⟨a8, c8, rfl, ho8, hb8⟩
      have HS8 : Hid (w8.ownsRow w.heap.size 43 4 (.slice (some ⟨g, 0, none⟩) (k + 2) (k + 2)) (k + 2) (dfRow (l ++ [zDf, zDf])) ∧ Below w.heap.size w w8 ∧ IntA w8 a5 (valsB l).1.length (valsB l).1 ∧ IntA w8 a6 (valsB l).1.length (valsB l).1 ∧ IntA w8 a7 (valsB more).1.length (valsB more).1 ∧ IntA w8 a8 (valsB more).1.length (valsB more).1) := ⟨owned_below HS7.out.1 hb8, HS7.out.2.1.trans (hb8.mono HS7.out.2.1.size), HS7.out.2.2.1.below hb8, HS7.out.2.2.2.1.below hb8, HS7.out.2.2.2.2.below hb8, intA_own ho8 rfl (by unfold maxLen; have := valsB_few more; omega)⟩
      clear ho8 hb8 HS7
      go_wp2_with fail
      refine (values_calls l la k lc w8 (HL.out.below HS8.out.2.1)).mono ?_
      rintro e w9 ⟨a9, c9, rfl, ho9, hb9⟩
      have HS9 : Hid (w9.ownsRow w.heap.size 43 4 (.slice (some ⟨g, 0, none⟩) (k + 2) (k + 2)) (k + 2) (dfRow (l ++ [zDf, zDf])) ∧ Below w.heap.size w w9) := ⟨owned_below HS8.out.1 hb9, HS8.out.2.1.trans (hb9.mono HS8.out.2.1.size)⟩
      have HT9 : Hid (IntA w9 a5 (valsB l).1.length (valsB l).1 ∧ IntA w9 a6 (valsB l).1.length (valsB l).1 ∧ IntA w9 a7 (valsB more).1.length (valsB more).1 ∧ IntA w9 a8 (valsB more).1.length (valsB more).1 ∧ IntA w9 a9 (valsB l).1.length (valsB l).1) := ⟨HS8.out.2.2.1.below hb9, HS8.out.2.2.2.1.below hb9, HS8.out.2.2.2.2.1.below hb9, HS8.out.2.2.2.2.2.below hb9, intA_own ho9 rfl (by unfold maxLen; have := valsB_few l; omega)⟩
      clear ho9 hb9 HS8
      go_wp2_with fail
      have hD := defs_calls l l (some ⟨g, 0, none⟩) k (k + 2) la k lc w9 (HTk.out _ HS9.out.1) (HL.out.below HS9.out.2)
      rw [decide_eq_true rfl] at hD
      refine hD.mono ?_
      rintro e w10 ⟨rfl, hb10⟩
      have HS10 : Hid (w10.ownsRow w.heap.size 43 4 (.slice (some ⟨g, 0, none⟩) (k + 2) (k + 2)) (k + 2) (dfRow (l ++ [zDf, zDf])) ∧ Below w.heap.size w w10) := ⟨owned_below HS9.out.1 hb10, HS9.out.2.trans (hb10.mono HS9.out.2.size)⟩
      have HT10 : Hid (IntA w10 a5 (valsB l).1.length (valsB l).1 ∧ IntA w10 a6 (valsB l).1.length (valsB l).1 ∧ IntA w10 a7 (valsB more).1.length (valsB more).1 ∧ IntA w10 a8 (valsB more).1.length (valsB more).1 ∧ IntA w10 a9 (valsB l).1.length (valsB l).1) := ⟨HT9.out.1.below hb10, HT9.out.2.1.below hb10, HT9.out.2.2.1.below hb10, HT9.out.2.2.2.1.below hb10, HT9.out.2.2.2.2.below hb10⟩
      clear hD hb10 HS9 HT9
      go_wp2_with fail
      have hD := ints_calls (valsB l).1 (valsB l).1 a5 _ c5 a6 _ c6 w10 HT10.out.1 HT10.out.2.1
      rw [decide_eq_true rfl] at hD
      refine hD.mono ?_
      rintro e w11 ⟨rfl, hb11⟩
      have HS11 : Hid (w11.ownsRow w.heap.size 43 4 (.slice (some ⟨g, 0, none⟩) (k + 2) (k + 2)) (k + 2) (dfRow (l ++ [zDf, zDf])) ∧ Below w.heap.size w w11) := ⟨owned_below HS10.out.1 hb11, HS10.out.2.trans (hb11.mono HS10.out.2.size)⟩
      have HT11 : Hid (IntA w11 a6 (valsB l).1.length (valsB l).1 ∧ IntA w11 a7 (valsB more).1.length (valsB more).1 ∧ IntA w11 a8 (valsB more).1.length (valsB more).1 ∧ IntA w11 a9 (valsB l).1.length (valsB l).1) := ⟨HT10.out.2.1.below hb11, HT10.out.2.2.1.below hb11, HT10.out.2.2.2.1.below hb11, HT10.out.2.2.2.2.below hb11⟩
      clear hD hb11 HS10 HT10
      go_wp2_with fail
      have hD := ints_calls (valsB more).1 (valsB more).1 a7 _ c7 a8 _ c8 w11 HT11.out.2.1 HT11.out.2.2.1
      rw [decide_eq_true rfl] at hD
      refine hD.mono ?_
      rintro e w12 ⟨rfl, hb12⟩
      have HS12 : Hid (w12.ownsRow w.heap.size 43 4 (.slice (some ⟨g, 0, none⟩) (k + 2) (k + 2)) (k + 2) (dfRow (l ++ [zDf, zDf])) ∧ Below w.heap.size w w12) := ⟨owned_below HS11.out.1 hb12, HS11.out.2.trans (hb12.mono HS11.out.2.size)⟩
      have HT12 : Hid (IntA w12 a6 (valsB l).1.length (valsB l).1 ∧ IntA w12 a9 (valsB l).1.length (valsB l).1) := ⟨HT11.out.1.below hb12, HT11.out.2.2.2.below hb12⟩
      clear hD hb12 HS11 HT11
      go_wp2_with fail
      have hD := ints_calls (valsB l).1 (valsB l).1 a9 _ c9 a6 _ c6 w12 HT12.out.2 HT12.out.1
      rw [decide_eq_true rfl] at hD
      refine hD.mono ?_
      rintro e w13 ⟨rfl, hb13⟩
      have HB13 : Hid (Below w.heap.size w w13) := HS12.out.2.trans (hb13.mono HS12.out.2.size)
      have ho := owned_below HS12.out.1 hb13
      have hz := flat_get (f := dfCells) (s := 4) (fun _ => rfl) (l ++ [zDf, zDf])
      have g0 : (l ++ [zDf, zDf])[k]? = some zDf := by rw [List.getElem?_append_right (by rw [HL.out.length]; omega), HL.out.length, Nat.sub_self]; rfl
      have g1 : (l ++ [zDf, zDf])[k + 1]? = some zDf := by rw [List.getElem?_append_right (by rw [HL.out.length]; omega), HL.out.length, show k + 1 - k = 1 by omega]; rfl
      have q0 : w13.cell? ⟨g, k * 4, none⟩ = some (.int .i64 0) := (owned_cells ho _ _ (hz k zDf 0 _ g0 rfl)).1
      have q1 : w13.cell? ⟨g, k * 4 + 1, none⟩ = some (.int .i64 0) := (owned_cells ho _ _ (hz k zDf 1 _ g0 rfl)).1
      have q2 : w13.cell? ⟨g, k * 4 + 2, none⟩ = some (.int .i64 0) := (owned_cells ho _ _ (hz k zDf 2 _ g0 rfl)).1
      have q3 : w13.cell? ⟨g, k * 4 + 3, none⟩ = some (.int .i64 0) := (owned_cells ho _ _ (hz k zDf 3 _ g0 rfl)).1
      have r0 : w13.cell? ⟨g, (k + 1) * 4, none⟩ = some (.int .i64 0) := (owned_cells ho _ _ (hz (k + 1) zDf 0 _ g1 rfl)).1
      have r1 : w13.cell? ⟨g, (k + 1) * 4 + 1, none⟩ = some (.int .i64 0) := (owned_cells ho _ _ (hz (k + 1) zDf 1 _ g1 rfl)).1
      have r2 : w13.cell? ⟨g, (k + 1) * 4 + 2, none⟩ = some (.int .i64 0) := (owned_cells ho _ _ (hz (k + 1) zDf 2 _ g1 rfl)).1
      have r3 : w13.cell? ⟨g, (k + 1) * 4 + 3, none⟩ = some (.int .i64 0) := (owned_cells ho _ _ (hz (k + 1) zDf 3 _ g1 rfl)).1
      clear hD hb13 HS12 HT12 ho hz g0 g1 HTk HL HM
      generalize (valsB l).2 = e1 at *
      generalize (valsB more).2 = e2 at *
      generalize (valsB l).1.length = n1 at *
      generalize (valsB more).1.length = n2 at *
      have he1 : (e1 == e1) = true := by simp
      have he2 : (e2 == e2) = true := by simp
      go_wp2
      go_ret
      exact ⟨rfl, HB13.out⟩
end Go.Proofs.YtlaodgdlkkmmeaaGreat

