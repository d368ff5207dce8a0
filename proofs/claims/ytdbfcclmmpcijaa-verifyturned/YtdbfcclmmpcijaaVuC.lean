/-
  The walks of the statements' own example and awake.
-/
import Derived.Test.YtdbfcclmmpcijaaVrL
import Derived.Test.YtdbfcclmmpcijaaVrN
import Derived.Test.YtdbfcclmmpcijaaVuB
namespace Go.Proofs.Ytdbfcclmmpcijaa
open Go.RowKit

def exS (b : Nat) : Ls := ⟨⟨some ⟨b + 1, 0, none⟩, 4, 4⟩, ⟨some ⟨b + 2, 0, none⟩, 1, 1⟩, ⟨some ⟨b + 4, 0, none⟩, 10, 10⟩, ⟨some ⟨b + 3, 0, none⟩, 2, 2⟩⟩
/-- The example's rows, its instructions as told. -/
structure ExAt (w : World) (b : Nat) (l : List Qd) : Prop where
  t : w.heap[b + 1]? = some (.cells #[.int .i64 1, .int .i64 (-1), .int .i64 (-1), .int .i64 1] 3 (0, 0))
  k : w.heap[b + 2]? = some (.cells #[.int .i64 0] 3 (0, 0))
  r : w.heap[b + 3]? = some (.cells #[.int .i64 1, .int .i64 0, .int .i64 0, .int .i64 1, .int .i64 1, .int .i64 1, .int .i64 1, .int .i64 1] 42 (0, 0))
  i : w.heap[b + 4]? = some (.cells (qdVals l).toArray 35 (0, 0))
theorem ExAt.next {w w2 : World} {b : Nat} {l : List Qd} (h : ExAt w b l) (hb : Below w.heap.size w w2) : ExAt w2 b l :=
  ⟨by rw [hb.block _ (lt_block h.t)]; exact h.t, by rw [hb.block _ (lt_block h.k)]; exact h.k, by rw [hb.block _ (lt_block h.r)]; exact h.r, by rw [hb.block _ (lt_block h.i)]; exact h.i⟩
theorem ExAt.at' {w : World} {b : Nat} {l : List Qd} (h : ExAt w b l) (hl : l.length = 10) : CdAt w { exC with cell := l } (exS b) :=
  ⟨ints_new (zs := [1, -1, -1, 1]) h.t rfl (by unfold maxLen; simp), ints_new (zs := [0]) h.k rfl (by unfold maxLen; simp), by have := qds_new h.i rfl (by rw [hl]; unfold maxLen; omega); rw [hl] at this; exact this, qds_new (l := [(1, 0, 0, 1), (1, 1, 1, 1)]) h.r rfl (by unfold maxLen; simp)⟩
theorem ExAt.put {w : World} {b : Nat} {l l2 : List Qd} (h : ExAt w b l) (j : Nat) (v : Value) (he : (qdVals l).set j v = qdVals l2) : ExAt (w.setCell ⟨b + 4, j, none⟩ v) b l2 := by
  refine ⟨?_, ?_, ?_, ?_⟩
  · rw [Below.heap_setCell _ _ _ _ (by show b + 1 ≠ b + 4; omega)]; exact h.t
  · rw [Below.heap_setCell _ _ _ _ (by show b + 2 ≠ b + 4; omega)]; exact h.k
  · rw [Below.heap_setCell _ _ _ _ (by show b + 3 ≠ b + 4; omega)]; exact h.r
  · rw [heap_setCell_same _ _ _ _ _ _ h.i, ← he]; simp
theorem ExAt.cell {w : World} {b : Nat} {l : List Qd} (h : ExAt w b l) (j : Nat) (v : Value) (hv : (qdVals l)[j]? = some v) : w.cell? ⟨b + 4, j, none⟩ = some v := cell_block h.i j v (by simpa using hv)
set_option maxHeartbeats 1000000 in
theorem example_calls (w : World) : Calls Try.prog 17 #[] w fun e w' => e = .returned (.agg (cdCells exC (exS w.heap.size))) ∧ ExAt w' w.heap.size exC.cell ∧ Below w.heap.size w w' := by
  have hres : Try.f17.results = #[.cell 0 26] := by kernel_rfl
  go_enter Try.func17, Try.ntmps17
  go_wp2
  refine bodyPost_ret (v := .agg (cdCells exC (exS w.heap.size))) ?_ rfl ⟨rfl, ?_, ?_⟩
  · simp only [results, hres]
    go_simp
    rfl
  · have key : ∀ {W : World} {b : Nat} {o : Obj}, W.heap.size = b → (W.alloc o).heap[b]? = some o := fun h => by rw [← h]; exact heap_alloc_new _ _
    refine ⟨?_, ?_, ?_, ?_⟩
    · rw [(below_new _).block _ (by simp), (below_new _).block _ (by simp), (below_new _).block _ (by simp)]
      exact key (by simp)
    · rw [(below_new _).block _ (by simp), (below_new _).block _ (by simp)]
      exact key (by simp)
    · rw [(below_new _).block _ (by simp)]
      exact key (by simp)
    · exact key (by simp)
  · exact ((((below_new _).alloc (by simp) _).alloc (by simp; omega) _).alloc (by simp; omega) _).alloc (by simp; omega) _


/-- A box somewhere, and what was there ahead. -/
structure Bk (w wr : World) (g : Nat) (cs : Array Value) : Prop where
  low : Below w.heap.size w wr
  box : wr.heap[g]? = some (.cells cs 26 (0, 0))
theorem Bk.next {w wr w2 : World} {g : Nat} {cs : Array Value} (h : Bk w wr g cs) (hb : Below wr.heap.size wr w2) : Bk w w2 g cs :=
  ⟨h.low.trans (hb.mono h.low.size), by rw [hb.block _ (lt_block h.box)]; exact h.box⟩
theorem Bk.cell {w wr : World} {g : Nat} {cs : Array Value} (h : Bk w wr g cs) (i : Nat) (v : Value) (hv : cs[i]? = some v) : wr.cell? ⟨g, i, none⟩ = some v := cell_block h.box i v hv
theorem Bk.put {w wr : World} {g : Nat} {cs : Array Value} (h : Bk w wr g cs) {k : Nat} (hk : w.heap.size ≤ k) (hne : g ≠ k) (j : Nat) (v : Value) : Bk w (wr.setCell ⟨k, j, none⟩ v) g cs :=
  ⟨h.low.setCell (p := ⟨k, j, none⟩) hk v, by rw [Below.heap_setCell _ _ _ _ hne]; exact h.box⟩
theorem exd_eq : ({ exC with cell := exD.cell } : Cd) = exD := rfl
theorem below_alA {w W : World} (h : Below w.heap.size w W) (o : Obj) : Below w.heap.size w (W.alloc o) := h.alloc h.size o
theorem us_ex : usdB exC 4 = ([0, 1], 0) := by kernel_rfl
theorem no_at (w : World) : CdAt w noC ⟨⟨none, 0, 0⟩, ⟨none, 0, 0⟩, ⟨none, 0, 0⟩, ⟨none, 0, 0⟩⟩ := ⟨IntsAt.nil _ _, IntsAt.nil _ _, QdsAt.nil _ _, QdsAt.nil _ _⟩
set_option maxRecDepth 10000 in
set_option maxHeartbeats 4000000 in
theorem awake_calls (w : World) :
    Calls Try.prog 8 #[] w fun e w' => e = .returned (.bool true) ∧ Below w.heap.size w w' := by
  go_enter Try.func8, Try.ntmps8
  go_wp2_with fail
  refine (example_calls w).mono ?_
  rintro e w1 ⟨rfl, hat, hb1⟩
  obtain ⟨b, hb⟩ : ∃ b, w.heap.size = b := ⟨_, rfl⟩
  have HB : Hid (w.heap.size = b) := hb
  rw [hb] at hat ⊢
  rw [show cdCells exC (exS b) = #[.int .i64 2, .int .i64 2, .int .i64 2, .int .i64 0, .int .i64 0, .int .i64 5, .slice (some ⟨b + 1, 0, none⟩) 4 4, .slice (some ⟨b + 2, 0, none⟩) 1 1, .slice (some ⟨b + 4, 0, none⟩) 10 10, .slice (some ⟨b + 3, 0, none⟩) 2 2] from rfl]
  have HX : Hid (Bx w1 #[.int .i64 2, .int .i64 2, .int .i64 2, .int .i64 0, .int .i64 0, .int .i64 5, .slice (some ⟨b + 1, 0, none⟩) 4 4, .slice (some ⟨b + 2, 0, none⟩) 1 1, .slice (some ⟨b + 4, 0, none⟩) 10 10, .slice (some ⟨b + 3, 0, none⟩) 2 2] (w1.alloc (.cells #[.int .i64 2, .int .i64 2, .int .i64 2, .int .i64 0, .int .i64 0, .int .i64 5, .slice (some ⟨b + 1, 0, none⟩) 4 4, .slice (some ⟨b + 2, 0, none⟩) 1 1, .slice (some ⟨b + 4, 0, none⟩) 10 10, .slice (some ⟨b + 3, 0, none⟩) 2 2] 26))) := Bx.start w1 _
  have HA : Hid (ExAt w1 b exC.cell ∧ Below w.heap.size w w1) := ⟨hat, hb1⟩
  clear hat hb1 hb
  go_wp2_with fail
  refine (check_calls exC (exS b) _ ((HA.out.1.next HX.out.low).at' rfl)).mono ?_
  rintro e w2 ⟨rfl, hb2⟩
  rw [chk_ex]
  have HX2 : Hid (Bx w1 #[.int .i64 2, .int .i64 2, .int .i64 2, .int .i64 0, .int .i64 0, .int .i64 5, .slice (some ⟨b + 1, 0, none⟩) 4 4, .slice (some ⟨b + 2, 0, none⟩) 1 1, .slice (some ⟨b + 4, 0, none⟩) 10 10, .slice (some ⟨b + 3, 0, none⟩) 2 2] w2) := HX.out.next hb2
  clear hb2 HX
  have c0 := HX2.out.cell 0 (.int .i64 2) rfl
  have c1 := HX2.out.cell 1 (.int .i64 2) rfl
  have c2 := HX2.out.cell 2 (.int .i64 2) rfl
  have c3 := HX2.out.cell 3 (.int .i64 0) rfl
  have c4 := HX2.out.cell 4 (.int .i64 0) rfl
  have c5 := HX2.out.cell 5 (.int .i64 5) rfl
  have c6 := HX2.out.cell 6 (.slice (some ⟨b + 1, 0, none⟩) 4 4) rfl
  have c7 := HX2.out.cell 7 (.slice (some ⟨b + 2, 0, none⟩) 1 1) rfl
  have c8 := HX2.out.cell 8 (.slice (some ⟨b + 4, 0, none⟩) 10 10) rfl
  have c9 := HX2.out.cell 9 (.slice (some ⟨b + 3, 0, none⟩) 2 2) rfl
  go_wp2_with fail
  refine (used_calls exC (exS b) 4 _ ((HA.out.1.next HX2.out.low).at' rfl) (by show 10 ≤ 10; omega)).mono ?_
  rintro e w3 ⟨v, rfl, ho, hb3⟩
  rw [us_ex] at ho ⊢
  obtain ⟨gu, cu, rfl, hgu, _, _, hgl⟩ := owned_some ho (by decide)
  have HX3 : Hid (Bx w1 #[.int .i64 2, .int .i64 2, .int .i64 2, .int .i64 0, .int .i64 0, .int .i64 5, .slice (some ⟨b + 1, 0, none⟩) 4 4, .slice (some ⟨b + 2, 0, none⟩) 1 1, .slice (some ⟨b + 4, 0, none⟩) 10 10, .slice (some ⟨b + 3, 0, none⟩) 2 2] w3) := HX2.out.next hb3
  have HO : Hid (w3.ownsRow w2.heap.size 3 1 (.slice (some ⟨gu, 0, none⟩) 2 cu) 2 (intVals [0, 1])) := ho
  clear ho hb3 HX2
  clear c0 c1 c2 c3 c4 c5 c6 c7 c8 c9
  have c0 := HX3.out.cell 0 (.int .i64 2) rfl
  have c1 := HX3.out.cell 1 (.int .i64 2) rfl
  have c2 := HX3.out.cell 2 (.int .i64 2) rfl
  have c3 := HX3.out.cell 3 (.int .i64 0) rfl
  have c4 := HX3.out.cell 4 (.int .i64 0) rfl
  have c5 := HX3.out.cell 5 (.int .i64 5) rfl
  have c6 := HX3.out.cell 6 (.slice (some ⟨b + 1, 0, none⟩) 4 4) rfl
  have c7 := HX3.out.cell 7 (.slice (some ⟨b + 2, 0, none⟩) 1 1) rfl
  have c8 := HX3.out.cell 8 (.slice (some ⟨b + 4, 0, none⟩) 10 10) rfl
  have c9 := HX3.out.cell 9 (.slice (some ⟨b + 3, 0, none⟩) 2 2) rfl
  have HE3 : Hid (ExAt w3 b exC.cell) := HA.out.1.next HX3.out.low
  have e34 := HE3.out.cell 34 (.int .i64 0) rfl
  have f34 := frozen_of_row w3 (b + 4) 34 _ _ HE3.out.i
  go_upto_region 5 with (fail)
  have HE4 : Hid (ExAt (w3.setCell ⟨b + 4, 34, none⟩ (.int .i64 1)) b exD.cell) := HE3.out.put 34 _ rfl
  have HK : Hid (Bk w (w3.setCell ⟨b + 4, 34, none⟩ (.int .i64 1)) w1.heap.size #[.int .i64 2, .int .i64 2, .int .i64 2, .int .i64 0, .int .i64 0, .int .i64 5, .slice (some ⟨b + 1, 0, none⟩) 4 4, .slice (some ⟨b + 2, 0, none⟩) 1 1, .slice (some ⟨b + 4, 0, none⟩) 10 10, .slice (some ⟨b + 3, 0, none⟩) 2 2]) :=
    Bk.put ⟨HA.out.2.trans (HX3.out.low.mono HA.out.2.size), HX3.out.box⟩ (by rw [HB.out]; omega) (by have := lt_block HA.out.1.i; omega) _ _
  have HO4 : Hid ((w3.setCell ⟨b + 4, 34, none⟩ (.int .i64 1)).ownsRow w2.heap.size 3 1 (.slice (some ⟨gu, 0, none⟩) 2 cu) 2 (intVals [0, 1])) := owned_setOther HO.out HE3.out.i (by decide) _
  clear c0 c1 c2 c3 c4 c5 c6 c7 c8 c9
  clear HE3 HO HX3 e34 f34 HA
  generalize w3.setCell ⟨b + 4, 34, none⟩ (.int .i64 1) = w4 at *
  generalize w1.heap.size = gx at *
  have c0 := HK.out.cell 0 (.int .i64 2) rfl
  have c1 := HK.out.cell 1 (.int .i64 2) rfl
  have c2 := HK.out.cell 2 (.int .i64 2) rfl
  have c3 := HK.out.cell 3 (.int .i64 0) rfl
  have c4 := HK.out.cell 4 (.int .i64 0) rfl
  have c5 := HK.out.cell 5 (.int .i64 5) rfl
  have c6 := HK.out.cell 6 (.slice (some ⟨b + 1, 0, none⟩) 4 4) rfl
  have c7 := HK.out.cell 7 (.slice (some ⟨b + 2, 0, none⟩) 1 1) rfl
  have c8 := HK.out.cell 8 (.slice (some ⟨b + 4, 0, none⟩) 10 10) rfl
  have c9 := HK.out.cell 9 (.slice (some ⟨b + 3, 0, none⟩) 2 2) rfl
  go_wp2_with fail
  refine (check_calls exD (exS b) _ (HE4.out.at' rfl)).mono ?_
  rintro e w5 ⟨rfl, hb5⟩
  rw [chk_exd]
  have HL5 : Hid (Below w.heap.size w w5) := (HK.out.next hb5).low
  have HO5 : Hid (w5.ownsRow w2.heap.size 3 1 (.slice (some ⟨gu, 0, none⟩) 2 cu) 2 (intVals [0, 1])) := owned_below HO4.out hb5
  clear hb5 HK HE4 HO4
  clear c0 c1 c2 c3 c4 c5 c6 c7 c8 c9
  go_wp2_with fail
  refine (check_calls noC ⟨⟨none, 0, 0⟩, ⟨none, 0, 0⟩, ⟨none, 0, 0⟩, ⟨none, 0, 0⟩⟩ _ (no_at _)).mono ?_
  rintro e w6 ⟨rfl, hb6⟩
  rw [chk_no]
  have HL6 : Hid (Below w.heap.size w w6) := below_two HL5.out hb6
  have HO6 : Hid (w6.ownsRow w2.heap.size 3 1 (.slice (some ⟨gu, 0, none⟩) 2 cu) 2 (intVals [0, 1])) := owned_below HO5.out hb6
  clear hb6 HL5 HO5
  have u0 := (owned_cells HO6.out 0 (.int .i64 0) rfl).1
  have u1 := (owned_cells HO6.out 1 (.int .i64 1) rfl).1
  go_wp2
  go_ret
  exact ⟨rfl, HL6.out⟩

end Go.Proofs.Ytdbfcclmmpcijaa
