/-
  The document's Decode.
-/
import Derived.Test.YtignpgoicoojiaaDoorRfC
import Derived.Test.YtignpgoicoojiaaDoorRdJ
namespace Go.Proofs.YtignpgoicoojiaaDoor
open Go.RowKit
theorem six {l : List Int} (h : l.length = 6) : ∃ h0 h1 h2 h3 h4 h5, l = [h0, h1, h2, h3, h4, h5] := by
  match l, h with
  | [a, b, c, d, e, f], _ => exact ⟨a, b, c, d, e, f, rfl⟩
theorem own_cells {w : World} {B g n cap : Nat} {l : List Int} (h : w.ownsRow B 3 1 (.slice (some ⟨g, 0, none⟩) n cap) n (intVals l)) (i : Nat) {z : Int} (hz : l[i]? = some z) : w.cell? ⟨g, i, none⟩ = some (.int .i64 z) :=
  (owned_cells h i (.int .i64 z) (by rw [intVals, List.getElem?_map, hz]; rfl)).1
theorem own_some {w : World} {B n : Nat} {e : TypeId} {size : Nat} {v : Value} {xs : List Value} (h : w.ownsRow B e size v (n + 1) xs) : ∃ g cap, v = .slice (some ⟨g, 0, none⟩) (n + 1) cap ∧ n + 1 ≤ cap ∧ cap ≤ maxLen := by
  rcases h.2 with ⟨_, h0⟩ | ⟨g, cap, cur, hv, _, _, h1, h2, _⟩
  · cases h0
  · exact ⟨g, cap, hv, h1, h2⟩
def Six (g : Nat) (a0 a1 a2 a3 a4 a5 : Int) (W : World) : Prop := W.cell? ⟨g, 0, none⟩ = some (.int .i64 a0) ∧ W.cell? ⟨g, 1, none⟩ = some (.int .i64 a1) ∧ W.cell? ⟨g, 2, none⟩ = some (.int .i64 a2) ∧ W.cell? ⟨g, 3, none⟩ = some (.int .i64 a3) ∧ W.cell? ⟨g, 4, none⟩ = some (.int .i64 a4) ∧ W.cell? ⟨g, 5, none⟩ = some (.int .i64 a5)
theorem cell_low {W : World} {a : Addr} {v : Value} (h : W.cell? a = some v) (o : Obj) : (W.alloc o).cell? a = some v := by
  have hl : a.block < W.heap.size := by
    rcases Nat.lt_or_ge a.block W.heap.size with h' | h'
    · exact h'
    · simp [World.cell?, Array.getElem?_eq_none h'] at h
  rw [World.cell?_of_block ((below_new _).block _ hl)]; exact h
theorem Six.alloc {g : Nat} {a0 a1 a2 a3 a4 a5 : Int} {W : World} (h : Six g a0 a1 a2 a3 a4 a5 W) (o : Obj) : Six g a0 a1 a2 a3 a4 a5 (W.alloc o) :=
  ⟨cell_low h.1 o, cell_low h.2.1 o, cell_low h.2.2.1 o, cell_low h.2.2.2.1 o, cell_low h.2.2.2.2.1 o, cell_low h.2.2.2.2.2 o⟩

set_option maxRecDepth 10000 in
set_option maxHeartbeats 8000000 in
theorem refDecode_bad (s : ByteArray) (w : World) (hs : s.size ≤ maxLen) (hb : (rhead s.data.toList).1.getD 0 0 < 2 ∨ 20 < (rhead s.data.toList).1.getD 0 0) :
    Calls Tryd.prog 18 #[.string s] w fun e w' => e = .returned (.tuple #[.agg (cdCells noCd nilS), .int .i64 150]) ∧ Below w.heap.size w w' := by
  have hres : Tryd.f18.results = #[.cell 2 26, .tmp 3] := by kernel_rfl
  go_enter Tryd.func18, Tryd.ntmps18
  go_wp2_with fail
  have hrf : Rf ((w.alloc (.cells #[.int .i64 0, .int .i64 0, .int .i64 0, .int .i64 0, .int .i64 0, .int .i64 0, .slice none 0 0, .slice none 0 0, .slice none 0 0, .slice none 0 0] 26)).alloc (.cells #[.string s, .int .i64 4] 59)) (w.heap.size + 1) s 4 := by
    refine ⟨?_, by omega, hs⟩
    rw [show w.heap.size + 1 = (w.alloc (.cells #[.int .i64 0, .int .i64 0, .int .i64 0, .int .i64 0, .int .i64 0, .int .i64 0, .slice none 0 0, .slice none 0 0, .slice none 0 0, .slice none 0 0] 26)).heap.size by simp, heap_alloc_new]; rfl
  refine (refNums_calls (w.heap.size + 1) s 4 6 6 _ hrf (by omega) (by omega) (by omega)).mono ?_
  rintro e w1 ⟨v, rfl, hown, hr1, hg1⟩
  rw [show cntR 6 6 = 6 from rfl] at hown hr1
  obtain ⟨g, cap, rfl, hcap, hcm⟩ := own_some hown
  obtain ⟨a0, a1, a2, a3, a4, a5, hl⟩ := six (rnums_len s.data.toList 6 4)
  rw [rhead, hl] at hb
  rw [hl] at hown
  simp only [List.getD_cons_zero] at hb
  have k0 : w1.heap[w.heap.size]? = some (.cells #[.int .i64 0, .int .i64 0, .int .i64 0, .int .i64 0, .int .i64 0, .int .i64 0, .slice none 0 0, .slice none 0 0, .slice none 0 0, .slice none 0 0] 26 (0, 0)) := by
    rw [hg1.block _ (by simp; omega) (by simp), (below_new _).block _ (by simp), heap_alloc_new]
  have hb1 : Below w.heap.size w w1 := by
    have h2 : Below w.heap.size w ((w.alloc (.cells #[.int .i64 0, .int .i64 0, .int .i64 0, .int .i64 0, .int .i64 0, .int .i64 0, .slice none 0 0, .slice none 0 0, .slice none 0 0, .slice none 0 0] 26)).alloc (.cells #[.string s, .int .i64 4] 59)) := below_al2 (Nat.le_refl _) _ _
    exact ⟨hg1.os.trans h2.os, hg1.tape.trans h2.tape, hg1.output.trans h2.output, Nat.le_trans h2.size hg1.size, fun k hk => (hg1.block k (Nat.lt_of_lt_of_le hk h2.size) (by intro e; cases e; omega)).trans (h2.block k hk)⟩
  have HSix : Hid (Six g a0 a1 a2 a3 a4 a5 w1) := ⟨own_cells hown 0 rfl, own_cells hown 1 rfl, own_cells hown 2 rfl, own_cells hown 3 rfl, own_cells hown 4 rfl, own_cells hown 5 rfl⟩
  have HB : Hid (Below w.heap.size w w1) := hb1
  have HK0 : Hid (w1.heap[w.heap.size]? = some (.cells #[.int .i64 0, .int .i64 0, .int .i64 0, .int .i64 0, .int .i64 0, .int .i64 0, .slice none 0 0, .slice none 0 0, .slice none 0 0, .slice none 0 0] 26 (0, 0))) := k0
  have hlt : w.heap.size < w1.heap.size := lt_block k0
  clear hrf hown hr1 hg1 hl k0 hb1
  unfold maxLen at hcm
  go_wp2_with fail
  refine wp_region_Y (fun j => [20].contains j) (fun W : World => Six g a0 a1 a2 a3 a4 a5 W) (by kernel_rfl) ?_
  refine wpAnyY_pure (i := 0) 19 (v := .slice (some ⟨g, 0, none⟩) 6 cap) rfl rfl (by kernel_rfl) (by kernel_rfl) (by kernel_rfl) (fun _ _ _ h => h) (Or.inl ⟨by rfl, by (intro W _; go_simp)⟩) ?_
  simp only [Act.put, List.setIfInBounds_toArray, List.set_cons_succ, List.set_cons_zero]
  refine wpAnyY_pure (i := 1) 20 (v := .pointer (some ⟨g, 0, none⟩)) rfl rfl (by kernel_rfl) (by kernel_rfl) (by kernel_rfl) (fun _ _ _ h => h) (Or.inl ⟨by rfl, by (intro W _; go_simp)⟩) ?_
  simp only [Act.put, List.setIfInBounds_toArray, List.set_cons_succ, List.set_cons_zero]
  refine wpAnyY_takeD (i := 2) 21 (v := .int .i64 a0) rfl rfl (by kernel_rfl) (by kernel_rfl) (late_of (by kernel_rfl)) (by kernel_rfl) (by kernel_rfl) (fun _ _ _ h => h) (by first | exact HSix.out | (show Six _ _ _ _ _ _ _ _; exact HSix.out) | (simpa [Six, World.cell?] using HSix.out)) (Or.inl ⟨by rfl, by (intro W hW; obtain ⟨hc0, hc1, hc2, hc3, hc4, hc5⟩ := hW; go_simp)⟩) ?_
  simp only [Act.put, List.setIfInBounds_toArray, List.set_cons_succ, List.set_cons_zero]
  refine wpAnyY_pure (i := 3) 22 (v := .slice (some ⟨g, 0, none⟩) 6 cap) rfl rfl (by kernel_rfl) (by kernel_rfl) (by kernel_rfl) (fun _ _ _ h => h) (Or.inl ⟨by rfl, by (intro W _; go_simp)⟩) ?_
  simp only [Act.put, List.setIfInBounds_toArray, List.set_cons_succ, List.set_cons_zero]
  refine wpAnyY_pure (i := 4) 23 (v := .pointer (some ⟨g, 1, none⟩)) rfl rfl (by kernel_rfl) (by kernel_rfl) (by kernel_rfl) (fun _ _ _ h => h) (Or.inl ⟨by rfl, by (intro W _; go_simp)⟩) ?_
  simp only [Act.put, List.setIfInBounds_toArray, List.set_cons_succ, List.set_cons_zero]
  refine wpAnyY_takeD (i := 5) 24 (v := .int .i64 a1) rfl rfl (by kernel_rfl) (by kernel_rfl) (late_of (by kernel_rfl)) (by kernel_rfl) (by kernel_rfl) (fun _ _ _ h => h) (by first | exact HSix.out | (show Six _ _ _ _ _ _ _ _; exact HSix.out) | (simpa [Six, World.cell?] using HSix.out)) (Or.inl ⟨by rfl, by (intro W hW; obtain ⟨hc0, hc1, hc2, hc3, hc4, hc5⟩ := hW; go_simp)⟩) ?_
  simp only [Act.put, List.setIfInBounds_toArray, List.set_cons_succ, List.set_cons_zero]
  refine wpAnyY_pure (i := 6) 25 (v := .slice (some ⟨g, 0, none⟩) 6 cap) rfl rfl (by kernel_rfl) (by kernel_rfl) (by kernel_rfl) (fun _ _ _ h => h) (Or.inl ⟨by rfl, by (intro W _; go_simp)⟩) ?_
  simp only [Act.put, List.setIfInBounds_toArray, List.set_cons_succ, List.set_cons_zero]
  refine wpAnyY_pure (i := 7) 26 (v := .pointer (some ⟨g, 2, none⟩)) rfl rfl (by kernel_rfl) (by kernel_rfl) (by kernel_rfl) (fun _ _ _ h => h) (Or.inl ⟨by rfl, by (intro W _; go_simp)⟩) ?_
  simp only [Act.put, List.setIfInBounds_toArray, List.set_cons_succ, List.set_cons_zero]
  refine wpAnyY_takeD (i := 8) 27 (v := .int .i64 a2) rfl rfl (by kernel_rfl) (by kernel_rfl) (late_of (by kernel_rfl)) (by kernel_rfl) (by kernel_rfl) (fun _ _ _ h => h) (by first | exact HSix.out | (show Six _ _ _ _ _ _ _ _; exact HSix.out) | (simpa [Six, World.cell?] using HSix.out)) (Or.inl ⟨by rfl, by (intro W hW; obtain ⟨hc0, hc1, hc2, hc3, hc4, hc5⟩ := hW; go_simp)⟩) ?_
  simp only [Act.put, List.setIfInBounds_toArray, List.set_cons_succ, List.set_cons_zero]
  refine wpAnyY_pure (i := 9) 28 (v := .slice (some ⟨g, 0, none⟩) 6 cap) rfl rfl (by kernel_rfl) (by kernel_rfl) (by kernel_rfl) (fun _ _ _ h => h) (Or.inl ⟨by rfl, by (intro W _; go_simp)⟩) ?_
  simp only [Act.put, List.setIfInBounds_toArray, List.set_cons_succ, List.set_cons_zero]
  refine wpAnyY_pure (i := 10) 29 (v := .pointer (some ⟨g, 3, none⟩)) rfl rfl (by kernel_rfl) (by kernel_rfl) (by kernel_rfl) (fun _ _ _ h => h) (Or.inl ⟨by rfl, by (intro W _; go_simp)⟩) ?_
  simp only [Act.put, List.setIfInBounds_toArray, List.set_cons_succ, List.set_cons_zero]
  refine wpAnyY_takeD (i := 11) 30 (v := .int .i64 a3) rfl rfl (by kernel_rfl) (by kernel_rfl) (late_of (by kernel_rfl)) (by kernel_rfl) (by kernel_rfl) (fun _ _ _ h => h) (by first | exact HSix.out | (show Six _ _ _ _ _ _ _ _; exact HSix.out) | (simpa [Six, World.cell?] using HSix.out)) (Or.inl ⟨by rfl, by (intro W hW; obtain ⟨hc0, hc1, hc2, hc3, hc4, hc5⟩ := hW; go_simp)⟩) ?_
  simp only [Act.put, List.setIfInBounds_toArray, List.set_cons_succ, List.set_cons_zero]
  refine wpAnyY_pure (i := 12) 31 (v := .slice (some ⟨g, 0, none⟩) 6 cap) rfl rfl (by kernel_rfl) (by kernel_rfl) (by kernel_rfl) (fun _ _ _ h => h) (Or.inl ⟨by rfl, by (intro W _; go_simp)⟩) ?_
  simp only [Act.put, List.setIfInBounds_toArray, List.set_cons_succ, List.set_cons_zero]
  refine wpAnyY_pure (i := 13) 32 (v := .pointer (some ⟨g, 4, none⟩)) rfl rfl (by kernel_rfl) (by kernel_rfl) (by kernel_rfl) (fun _ _ _ h => h) (Or.inl ⟨by rfl, by (intro W _; go_simp)⟩) ?_
  simp only [Act.put, List.setIfInBounds_toArray, List.set_cons_succ, List.set_cons_zero]
  refine wpAnyY_takeD (i := 14) 33 (v := .int .i64 a4) rfl rfl (by kernel_rfl) (by kernel_rfl) (late_of (by kernel_rfl)) (by kernel_rfl) (by kernel_rfl) (fun _ _ _ h => h) (by first | exact HSix.out | (show Six _ _ _ _ _ _ _ _; exact HSix.out) | (simpa [Six, World.cell?] using HSix.out)) (Or.inl ⟨by rfl, by (intro W hW; obtain ⟨hc0, hc1, hc2, hc3, hc4, hc5⟩ := hW; go_simp)⟩) ?_
  simp only [Act.put, List.setIfInBounds_toArray, List.set_cons_succ, List.set_cons_zero]
  refine wpAnyY_pure (i := 15) 34 (v := .slice (some ⟨g, 0, none⟩) 6 cap) rfl rfl (by kernel_rfl) (by kernel_rfl) (by kernel_rfl) (fun _ _ _ h => h) (Or.inl ⟨by rfl, by (intro W _; go_simp)⟩) ?_
  simp only [Act.put, List.setIfInBounds_toArray, List.set_cons_succ, List.set_cons_zero]
  refine wpAnyY_pure (i := 16) 35 (v := .pointer (some ⟨g, 5, none⟩)) rfl rfl (by kernel_rfl) (by kernel_rfl) (by kernel_rfl) (fun _ _ _ h => h) (Or.inl ⟨by rfl, by (intro W _; go_simp)⟩) ?_
  simp only [Act.put, List.setIfInBounds_toArray, List.set_cons_succ, List.set_cons_zero]
  refine wpAnyY_takeD (i := 17) 36 (v := .int .i64 a5) rfl rfl (by kernel_rfl) (by kernel_rfl) (late_of (by kernel_rfl)) (by kernel_rfl) (by kernel_rfl) (fun _ _ _ h => h) (by first | exact HSix.out | (show Six _ _ _ _ _ _ _ _; exact HSix.out) | (simpa [Six, World.cell?] using HSix.out)) (Or.inl ⟨by rfl, by (intro W hW; obtain ⟨hc0, hc1, hc2, hc3, hc4, hc5⟩ := hW; go_simp)⟩) ?_
  simp only [Act.put, List.setIfInBounds_toArray, List.set_cons_succ, List.set_cons_zero]
  refine wpAnyY_pure (i := 18) 37 (v := .agg #[.int .i64 a0, .int .i64 a1, .int .i64 a2, .int .i64 a3, .int .i64 a4, .int .i64 a5, .slice none 0 0, .slice none 0 0, .slice none 0 0, .slice none 0 0]) rfl rfl (by kernel_rfl) (by kernel_rfl) (by kernel_rfl) (fun _ _ _ h => h) (Or.inl ⟨by rfl, by (intro W _; go_simp)⟩) ?_
  simp only [Act.put, List.setIfInBounds_toArray, List.set_cons_succ, List.set_cons_zero]
  refine wpAnyY_one (i := 19) rfl (by kernel_rfl) (fun Kc hKc => ?_)
  go_simp
  refine hKc.out _ _ (fun _ h => Six.alloc h _) ?_
  clear hKc Kc
  refine wpAnyY_one (i := 20) rfl (by kernel_rfl) (fun Kc hKc => ?_)
  go_simp
  refine hKc.out _ _ (fun h => absurd h (by decide)) ?_
  clear hKc Kc
  refine wpAnyY_done (by kernel_rfl) ?_ _
  obtain ⟨wd, hwd⟩ : ∃ wd, (w1.alloc (.cells #[.int .i64 a0, .int .i64 a1, .int .i64 a2, .int .i64 a3, .int .i64 a4, .int .i64 a5, .slice none 0 0, .slice none 0 0, .slice none 0 0, .slice none 0 0] 26)).drew = wd := ⟨_, rfl⟩
  rw [hwd]
  have kg : wd.heap[w1.heap.size]? = some (.cells #[.int .i64 a0, .int .i64 a1, .int .i64 a2, .int .i64 a3, .int .i64 a4, .int .i64 a5, .slice none 0 0, .slice none 0 0, .slice none 0 0, .slice none 0 0] 26 (0, 0)) := by rw [← hwd]; show (w1.alloc _).heap[_]? = _; rw [heap_alloc_new]
  have k1 : wd.heap[w.heap.size]? = some (.cells #[.int .i64 0, .int .i64 0, .int .i64 0, .int .i64 0, .int .i64 0, .int .i64 0, .slice none 0 0, .slice none 0 0, .slice none 0 0, .slice none 0 0] 26 (0, 0)) := by rw [← hwd]; show (w1.alloc _).heap[_]? = _; rw [(below_new _).block _ hlt]; exact HK0.out
  have HBd : Hid (Below w.heap.size w wd) := by
    have h := below_alS HB.out (.cells #[.int .i64 a0, .int .i64 a1, .int .i64 a2, .int .i64 a3, .int .i64 a4, .int .i64 a5, .slice none 0 0, .slice none 0 0, .slice none 0 0, .slice none 0 0] 26)
    rw [← hwd]
    exact ⟨by first | exact h.os | simpa using h.os, by first | exact h.tape | simpa using h.tape, by first | exact h.output | simpa using h.output, by first | exact h.size | simpa using h.size, fun k hk => by first | exact h.block k hk | simpa using h.block k hk⟩
  have g0 : wd.cell? ⟨w1.heap.size, 0, none⟩ = some (.int .i64 a0) := cell_block kg 0 _ rfl
  have e0 : wd.cell? ⟨w.heap.size, 0, none⟩ = some (.int .i64 0) := cell_block k1 0 _ rfl
  have e1 : wd.cell? ⟨w.heap.size, 1, none⟩ = some (.int .i64 0) := cell_block k1 1 _ rfl
  have e2 : wd.cell? ⟨w.heap.size, 2, none⟩ = some (.int .i64 0) := cell_block k1 2 _ rfl
  have e3 : wd.cell? ⟨w.heap.size, 3, none⟩ = some (.int .i64 0) := cell_block k1 3 _ rfl
  have e4 : wd.cell? ⟨w.heap.size, 4, none⟩ = some (.int .i64 0) := cell_block k1 4 _ rfl
  have e5 : wd.cell? ⟨w.heap.size, 5, none⟩ = some (.int .i64 0) := cell_block k1 5 _ rfl
  have e6 : wd.cell? ⟨w.heap.size, 6, none⟩ = some (.slice none 0 0) := cell_block k1 6 _ rfl
  have e7 : wd.cell? ⟨w.heap.size, 7, none⟩ = some (.slice none 0 0) := cell_block k1 7 _ rfl
  have e8 : wd.cell? ⟨w.heap.size, 8, none⟩ = some (.slice none 0 0) := cell_block k1 8 _ rfl
  have e9 : wd.cell? ⟨w.heap.size, 9, none⟩ = some (.slice none 0 0) := cell_block k1 9 _ rfl
  have ef : ∀ i, wd.frozen? ⟨w.heap.size, i, none⟩ = false := fun i => frozen_of_row wd _ i _ _ k1
  clear hwd kg k1 HB HK0 HSix hlt
  rcases hb with hb | hb
  · have hd1 : decide (a0 < 2) = true := by simp; omega
    go_wp2
    refine bodyPost_ret (v := .tuple #[.agg #[.int .i64 0, .int .i64 0, .int .i64 0, .int .i64 0, .int .i64 0, .int .i64 0, .slice none 0 0, .slice none 0 0, .slice none 0 0, .slice none 0 0], .int .i64 150]) ?_ rfl ⟨rfl, ?_⟩
    · simp only [results, hres]
      go_simp
    · exact ten_low HBd.out _ _ _ _ _ _ _ _ _ _
  · have hd1 : decide (a0 < 2) = false := by simp; omega
    have hd2 : decide (20 < a0) = true := by simp; omega
    go_wp2
    refine bodyPost_ret (v := .tuple #[.agg #[.int .i64 0, .int .i64 0, .int .i64 0, .int .i64 0, .int .i64 0, .int .i64 0, .slice none 0 0, .slice none 0 0, .slice none 0 0, .slice none 0 0], .int .i64 150]) ?_ rfl ⟨rfl, ?_⟩
    · simp only [results, hres]
      go_simp
    · exact ten_low HBd.out _ _ _ _ _ _ _ _ _ _
end Go.Proofs.YtignpgoicoojiaaDoor
