/-
  What a table tells.
-/
import Derived.Test.YtnkfibahkmmnpaaGreatKh
namespace Go.Proofs.YtnkfibahkmmnpaaGreat
open Go.RowKit

section
variable {w : World} {g gs P X Y : Nat} {sa : Sl} {f : Nat → Ct} {e : En} {st : Int}
set_option maxRecDepth 10000 in
theorem arrows_calls (h : Tb w g gs P X Y sa f e st) (l : List Qd) (ha : QdsAt w sa.a sa.n l) (hl : sa.n ≤ 100000) : Calls Tryz.prog 20 #[.pointer (some ⟨g, 0, none⟩)] w (ArPost l w) := by
  have c4 := h.cell 4 (v := .slice sa.a sa.n sa.c) rfl
  have HC : Hid (Calls Tryz.prog 29 #[.slice sa.a sa.n sa.c] w (ArPost l w)) := cloneA_calls l sa.a sa.n sa.c w ha hl
  clear h ha
  go_enter Tryz.func20, Tryz.ntmps20
  go_wp2_with fail
  refine HC.out.mono ?_
  rintro r w1 ⟨ao, cap, rfl, hp⟩
  have HP : Hid (w1.ownsRow w.heap.size 79 4 (.slice ao l.length cap) l.length (qdVals l) ∧ Below w.heap.size w w1) := hp
  clear hp HC
  go_wp2
  go_ret
  exact ⟨ao, cap, rfl, HP.out⟩
end
def risL (pl : Nat → Bool) (k : Nat) : List Int := ((List.range k).filter pl).map Int.ofNat
theorem risL_succ (pl : Nat → Bool) (k : Nat) : risL pl (k + 1) = risL pl k ++ (if pl k then [(k : Int)] else []) := by
  unfold risL
  rw [List.range_succ, List.filter_append, List.map_append]
  cases h : pl k <;> simp [h]
theorem risL_len (pl : Nat → Bool) (k : Nat) : (risL pl k).length ≤ k := by
  unfold risL
  rw [List.length_map]
  exact Nat.le_trans (List.length_filter_le _ _) (by simp)
def plC (pl : Nat → Bool) : Array Value := #[.bool (pl 0), .bool (pl 1), .bool (pl 2), .bool (pl 3), .bool (pl 4), .bool (pl 5), .bool (pl 6), .bool (pl 7), .bool (pl 8), .bool (pl 9)]
theorem plC_get (pl : Nat → Bool) (k : Nat) (hk : k < 10) : (plC pl)[k]? = some (.bool (pl k)) := by
  have : k = 0 ∨ k = 1 ∨ k = 2 ∨ k = 3 ∨ k = 4 ∨ k = 5 ∨ k = 6 ∨ k = 7 ∨ k = 8 ∨ k = 9 := by omega
  rcases this with rfl | rfl | rfl | rfl | rfl | rfl | rfl | rfl | rfl | rfl <;> rfl
theorem run_index47 (A : Array Value) (k : Nat) (b : Bool) (hk : k < 10) (h : A[k]? = some (.bool b)) (W : World) : (Instr.index 69 (.agg A) (.int .i64 (k : Int))).run Tryz.prog W = .ok (.bool b) W := by
  have h4 : (Tryz.prog.info? 4).map (·.size) = some 1 := by kernel_rfl
  cases hq : Tryz.prog.info? 4 with
  | none => simp [hq] at h4
  | some i =>
    have hi : i.size = 1 := by simpa [hq] using h4
    have hlt : ¬ 10 ≤ k := by omega
    simp [Instr.index, run_underlying Tryz.underlying69, asIntOf, hlt, sizeOf, typeInfo, hq, hi, go_sem, part, h]
/-- What is told of the best end. -/
def BestPost (e : En) (w : World) (r : Ending) (w' : World) : Prop :=
  ∃ ao cap, r = .returned (.tuple #[.int .i64 e.score, .int .i64 e.i, .int .i64 e.j, .slice ao (risB e).length cap, .bool e.found]) ∧ w'.ownsRow w.heap.size 3 1 (.slice ao (risB e).length cap) (risB e).length (intVals (risB e)) ∧ Below w.heap.size w w'
set_option maxRecDepth 10000 in
set_option maxHeartbeats 2000000 in
theorem rising_calls (pl : Nat → Bool) (b : Nat) (v0 v1 v2 v3 : Value) (w : World) (h : w.heap[b]? = some (.cells #[v0, v1, v2, v3, .bool (pl 0), .bool (pl 1), .bool (pl 2), .bool (pl 3), .bool (pl 4), .bool (pl 5), .bool (pl 6), .bool (pl 7), .bool (pl 8), .bool (pl 9)] 88 (0, 0))) :
    Calls Tryz.prog 41 #[.pointer (some ⟨b, 0, none⟩)] w fun r w' => ∃ ao cap, r = .returned (.slice ao (risL pl 10).length cap) ∧ w'.ownsRow w.heap.size 3 1 (.slice ao (risL pl 10).length cap) (risL pl 10).length (intVals (risL pl 10)) ∧ Below w.heap.size w w' := by
  have p0 := cell_block h 4 (.bool (pl 0)) rfl
  have p1 := cell_block h 5 (.bool (pl 1)) rfl
  have p2 := cell_block h 6 (.bool (pl 2)) rfl
  have p3 := cell_block h 7 (.bool (pl 3)) rfl
  have p4 := cell_block h 8 (.bool (pl 4)) rfl
  have p5 := cell_block h 9 (.bool (pl 5)) rfl
  have p6 := cell_block h 10 (.bool (pl 6)) rfl
  have p7 := cell_block h 11 (.bool (pl 7)) rfl
  have p8 := cell_block h 12 (.bool (pl 8)) rfl
  have p9 := cell_block h 13 (.bool (pl 9)) rfl
  clear h
  obtain ⟨i1, hi, hz0, hz1, hz2⟩ := info_parts info3
  go_enter Tryz.func41, Tryz.ntmps41
  go_wp2
  clear p0 p1 p2 p3 p4 p5 p6 p7 p8 p9
  go_loopw [3, 4, 5, 10] (fun v _ _ i wr => ∃ j : Nat, j ≤ 10 ∧ i = .int .i64 j ∧ wr.ownsRow w.heap.size 3 1 v (risL pl j).length (intVals (risL pl j)) ∧ Below w.heap.size w wr) (fun _ _ _ i _ => 10 - (intOf i).toNat)
  case atStart => exact ⟨0, Nat.zero_le _, rfl, own_nil1 _ _, Below.refl _ _⟩
  case round =>
    obtain ⟨j, hj, rfl, hown, hlow⟩ := hrel
    have hlen := risL_len pl j
    obtain ⟨ak, cak, rfl⟩ := owned_shape hown
    have HSc : Hid (risL pl (j + 1) = risL pl j ++ (if pl j then [(j : Int)] else [])) := risL_succ pl j
    have HO : Hid (wr.ownsRow w.heap.size 3 1 (.slice ak (risL pl j).length cak) (risL pl j).length (intVals (risL pl j)) ∧ Below w.heap.size w wr) := ⟨hown, hlow⟩
    have hws := hlow.size
    clear hown hlow
    by_cases hlt : j < 10
    · obtain ⟨b, hb⟩ : ∃ b, pl j = b := ⟨_, rfl⟩
      have hix := run_index47 (plC pl) j b hlt (by rw [plC_get pl j hlt, hb])
      unfold plC at hix
      rw [hb] at HSc
      generalize hll : risL pl j = l at *
      clear hb hll
      generalize hn : l.length = n at *
      have HN : Hid (l.length = n) := hn
      clear hn
      cases b
      · go_wp2
        go_roundw
        case rel => exact ⟨j + 1, by omega, by go_num, by rw [HSc.out]; simp only [Bool.false_eq_true, if_false, List.append_nil]; rw [HN.out]; exact HO.out.1, HO.out.2⟩
        case measure => simp [intOf]; omega
      · go_wp2_with (at_builtin; go_loud (refine wpList_append_own _ rfl _ _ 22 rfl w.heap.size 3 i1 (.int .i64 0) 1 8 Tryz.underlying22 hi hz0 hz1 hz2 rfl (by decide) (.slice ak n cak) _ _ rfl (HO.out.1.alloc _) ⟨_, 0, none⟩ 1 1 [.int .i64 j] rfl rfl ?c1 (one_int j) ?c3 ?c4 ?c5 ?_))
        case c3 => unfold maxLen; omega
        case c4 => omega
        case c5 => first | omega | (simp; omega)
        intro v' w3 hown' hgrow _
        have H3 : Hid (w3.ownsRow w.heap.size 3 1 v' (l ++ [(j : Int)]).length (intVals (l ++ [(j : Int)])) ∧ Below w.heap.size w w3) := by
          refine ⟨?_, (HO.out.2.alloc HO.out.2.size _).grown hgrow (by have := HO.out.2.size; simp; omega) (own_blk HO.out.1)⟩
          rw [intVals, List.map_append, List.length_append, HN.out]; exact hown'
        clear hown' hgrow HO
        go_wp2
        go_roundw
        case rel => exact ⟨j + 1, by omega, by go_num, by rw [HSc.out]; exact H3.out.1, H3.out.2⟩
        case measure => simp [intOf]; omega
    · obtain rfl : j = 10 := by omega
      clear HSc hlen
      go_wp2
      go_ret
      exact ⟨ak, cak, rfl, HO.out⟩
set_option maxRecDepth 10000 in
set_option maxHeartbeats 2000000 in
theorem best_calls {w : World} {g gs P X Y : Nat} {sa : Sl} {f : Nat → Ct} {e : En} {st : Int} (h : Tb w g gs P X Y sa f e st) : Calls Tryz.prog 19 #[.pointer (some ⟨g, 0, none⟩)] w (BestPost e w) := by

  have c5 := h.cell 5 (v := .bool e.found) rfl
  have c6 := h.cell 6 (v := .int .i64 e.score) rfl
  have c7 := h.cell 7 (v := .int .i64 e.i) rfl
  have c8 := h.cell 8 (v := .int .i64 e.j) rfl
  have c9 := h.cell 9 (v := .bool (e.planes 0)) rfl
  have c10 := h.cell 10 (v := .bool (e.planes 1)) rfl
  have c11 := h.cell 11 (v := .bool (e.planes 2)) rfl
  have c12 := h.cell 12 (v := .bool (e.planes 3)) rfl
  have c13 := h.cell 13 (v := .bool (e.planes 4)) rfl
  have c14 := h.cell 14 (v := .bool (e.planes 5)) rfl
  have c15 := h.cell 15 (v := .bool (e.planes 6)) rfl
  have c16 := h.cell 16 (v := .bool (e.planes 7)) rfl
  have c17 := h.cell 17 (v := .bool (e.planes 8)) rfl
  have c18 := h.cell 18 (v := .bool (e.planes 9)) rfl
  have HBx : Hid ((w.alloc (.cells #[.bool e.found, .int .i64 e.score, .int .i64 e.i, .int .i64 e.j, .bool (e.planes 0), .bool (e.planes 1), .bool (e.planes 2), .bool (e.planes 3), .bool (e.planes 4), .bool (e.planes 5), .bool (e.planes 6), .bool (e.planes 7), .bool (e.planes 8), .bool (e.planes 9)] 88)).drew.heap[w.heap.size]? = some (.cells #[.bool e.found, .int .i64 e.score, .int .i64 e.i, .int .i64 e.j, .bool (e.planes 0), .bool (e.planes 1), .bool (e.planes 2), .bool (e.planes 3), .bool (e.planes 4), .bool (e.planes 5), .bool (e.planes 6), .bool (e.planes 7), .bool (e.planes 8), .bool (e.planes 9)] 88 (0, 0)) ∧ Below w.heap.size w (w.alloc (.cells #[.bool e.found, .int .i64 e.score, .int .i64 e.i, .int .i64 e.j, .bool (e.planes 0), .bool (e.planes 1), .bool (e.planes 2), .bool (e.planes 3), .bool (e.planes 4), .bool (e.planes 5), .bool (e.planes 6), .bool (e.planes 7), .bool (e.planes 8), .bool (e.planes 9)] 88)).drew) := ⟨heap_alloc_new w _, (below_new _).drew⟩
  clear h
  go_enter Tryz.func19, Tryz.ntmps19
  go_upto_region 2 with (fail)
  clear c5 c6 c7 c8 c9 c10 c11 c12 c13 c14 c15 c16 c17 c18
  obtain ⟨wd, hwd⟩ : ∃ wd, wd = w.alloc (.cells #[.bool e.found, .int .i64 e.score, .int .i64 e.i, .int .i64 e.j, .bool (e.planes 0), .bool (e.planes 1), .bool (e.planes 2), .bool (e.planes 3), .bool (e.planes 4), .bool (e.planes 5), .bool (e.planes 6), .bool (e.planes 7), .bool (e.planes 8), .bool (e.planes 9)] 88) := ⟨_, rfl⟩
  rw [← hwd] at HBx ⊢
  clear hwd
  have HS : Hid ((fun W : World => W.cell? ⟨w.heap.size, 0, none⟩ = some (.bool e.found) ∧ W.cell? ⟨w.heap.size, 1, none⟩ = some (.int .i64 e.score) ∧ W.cell? ⟨w.heap.size, 2, none⟩ = some (.int .i64 e.i) ∧ W.cell? ⟨w.heap.size, 3, none⟩ = some (.int .i64 e.j)) wd.drew) := ⟨cell_block HBx.out.1 0 _ rfl, cell_block HBx.out.1 1 _ rfl, cell_block HBx.out.1 2 _ rfl, cell_block HBx.out.1 3 _ rfl⟩
  refine wp_region_Y (fun j => [].contains j) (fun W : World => W.cell? ⟨w.heap.size, 0, none⟩ = some (.bool e.found) ∧ W.cell? ⟨w.heap.size, 1, none⟩ = some (.int .i64 e.score) ∧ W.cell? ⟨w.heap.size, 2, none⟩ = some (.int .i64 e.i) ∧ W.cell? ⟨w.heap.size, 3, none⟩ = some (.int .i64 e.j)) (by kernel_rfl) ?_
  refine wpAnyY_pure (i := 0) 12 (v := .pointer (some ⟨w.heap.size, 1, none⟩)) rfl rfl (by kernel_rfl) (by kernel_rfl) (by kernel_rfl) (fun _ _ _ h => h) (Or.inl ⟨by rfl, by (intro W _; go_simp)⟩) ?_
  simp only [Act.put, List.setIfInBounds_toArray, List.set_cons_succ, List.set_cons_zero]
  refine wpAnyY_takeD (i := 1) 13 (v := .int .i64 e.score) rfl rfl (by kernel_rfl) (by kernel_rfl) (late_of (by kernel_rfl)) (by kernel_rfl) (by kernel_rfl) (fun _ _ _ h => h) HS.out (Or.inl ⟨by rfl, by (intro W hW; obtain ⟨e0, e1, e2, e3⟩ := hW; go_simp)⟩) ?_
  simp only [Act.put, List.setIfInBounds_toArray, List.set_cons_succ, List.set_cons_zero]
  refine wpAnyY_pure (i := 2) 14 (v := .pointer (some ⟨w.heap.size, 2, none⟩)) rfl rfl (by kernel_rfl) (by kernel_rfl) (by kernel_rfl) (fun _ _ _ h => h) (Or.inl ⟨by rfl, by (intro W _; go_simp)⟩) ?_
  simp only [Act.put, List.setIfInBounds_toArray, List.set_cons_succ, List.set_cons_zero]
  refine wpAnyY_takeD (i := 3) 15 (v := .int .i64 e.i) rfl rfl (by kernel_rfl) (by kernel_rfl) (late_of (by kernel_rfl)) (by kernel_rfl) (by kernel_rfl) (fun _ _ _ h => h) HS.out (Or.inl ⟨by rfl, by (intro W hW; obtain ⟨e0, e1, e2, e3⟩ := hW; go_simp)⟩) ?_
  simp only [Act.put, List.setIfInBounds_toArray, List.set_cons_succ, List.set_cons_zero]
  refine wpAnyY_pure (i := 4) 16 (v := .pointer (some ⟨w.heap.size, 3, none⟩)) rfl rfl (by kernel_rfl) (by kernel_rfl) (by kernel_rfl) (fun _ _ _ h => h) (Or.inl ⟨by rfl, by (intro W _; go_simp)⟩) ?_
  simp only [Act.put, List.setIfInBounds_toArray, List.set_cons_succ, List.set_cons_zero]
  refine wpAnyY_takeD (i := 5) 17 (v := .int .i64 e.j) rfl rfl (by kernel_rfl) (by kernel_rfl) (late_of (by kernel_rfl)) (by kernel_rfl) (by kernel_rfl) (fun _ _ _ h => h) HS.out (Or.inl ⟨by rfl, by (intro W hW; obtain ⟨e0, e1, e2, e3⟩ := hW; go_simp)⟩) ?_
  simp only [Act.put, List.setIfInBounds_toArray, List.set_cons_succ, List.set_cons_zero]
  refine wpAnyY_pure (i := 7) 19 (v := .pointer (some ⟨w.heap.size, 0, none⟩)) rfl rfl (by kernel_rfl) (by kernel_rfl) (by kernel_rfl) (fun _ _ _ h => h) (Or.inl ⟨by rfl, by (intro W _; go_simp)⟩) ?_
  simp only [Act.put, List.setIfInBounds_toArray, List.set_cons_succ, List.set_cons_zero]
  refine wpAnyY_takeD (i := 8) 20 (v := .bool e.found) rfl rfl (by kernel_rfl) (by kernel_rfl) (late_of (by kernel_rfl)) (by kernel_rfl) (by kernel_rfl) (fun _ _ _ h => h) HS.out (Or.inl ⟨by rfl, by (intro W hW; obtain ⟨e0, e1, e2, e3⟩ := hW; go_simp)⟩) ?_
  simp only [Act.put, List.setIfInBounds_toArray, List.set_cons_succ, List.set_cons_zero]
  refine wpAnyY_one (i := 6) rfl (by kernel_rfl) (fun Kc hKc => ?_)
  refine step_fnD 18 rfl (by rfl) 41 _ _ rfl Tryz.f41 Tryz.func41 (by kernel_rfl) (by kernel_rfl) #[.pointer (some ⟨w.heap.size, 0, none⟩)] (by simp [Act.eval]) (rising_calls e.planes _ _ _ _ _ _ HBx.out.1) ?_
  rintro r w1 ⟨ao, cap, rfl, ho, hb⟩
  refine ⟨_, rfl, hKc.out _ _ (fun _ h => ⟨cell_bl hb h.1, cell_bl hb h.2.1, cell_bl hb h.2.2.1, cell_bl hb h.2.2.2⟩) ?_⟩
  clear hKc Kc
  simp only [Act.put, List.setIfInBounds_toArray, List.set_cons_succ, List.set_cons_zero]
  have HO : Hid (w1.ownsRow w.heap.size 3 1 (.slice ao (risL e.planes 10).length cap) (risL e.planes 10).length (intVals (risL e.planes 10)) ∧ Below w.heap.size w w1) := ⟨owned_base ho HBx.out.2.size, HBx.out.2.trans (hb.mono HBx.out.2.size)⟩
  clear ho hb HBx HS
  have HRl : Hid (risL e.planes 10 = risB e) := rfl
  rw [HRl.out] at HO ⊢
  obtain ⟨n, hn⟩ : ∃ n, (risB e).length = n := ⟨_, rfl⟩
  have HN : Hid ((risB e).length = n) := hn
  rw [hn] at HO ⊢
  clear hn HRl
  refine wpAnyY_pure (i := 9) 2 (v := .int .i64 e.score) rfl rfl (by kernel_rfl) (by kernel_rfl) (by kernel_rfl) (fun _ _ _ h => h) (Or.inl ⟨by rfl, by (intro W _; go_simp)⟩) ?_
  simp only [Act.put, List.setIfInBounds_toArray, List.set_cons_succ, List.set_cons_zero]
  refine wpAnyY_pure (i := 10) 3 (v := .int .i64 e.i) rfl rfl (by kernel_rfl) (by kernel_rfl) (by kernel_rfl) (fun _ _ _ h => h) (Or.inl ⟨by rfl, by (intro W _; go_simp)⟩) ?_
  simp only [Act.put, List.setIfInBounds_toArray, List.set_cons_succ, List.set_cons_zero]
  refine wpAnyY_pure (i := 11) 4 (v := .int .i64 e.j) rfl rfl (by kernel_rfl) (by kernel_rfl) (by kernel_rfl) (fun _ _ _ h => h) (Or.inl ⟨by rfl, by (intro W _; go_simp)⟩) ?_
  simp only [Act.put, List.setIfInBounds_toArray, List.set_cons_succ, List.set_cons_zero]
  refine wpAnyY_pure (i := 12) 5 (v := .slice ao n cap) rfl rfl (by kernel_rfl) (by kernel_rfl) (by kernel_rfl) (fun _ _ _ h => h) (Or.inl ⟨by rfl, by (intro W _; go_simp)⟩) ?_
  simp only [Act.put, List.setIfInBounds_toArray, List.set_cons_succ, List.set_cons_zero]
  refine wpAnyY_pure (i := 13) 6 (v := .bool e.found) rfl rfl (by kernel_rfl) (by kernel_rfl) (by kernel_rfl) (fun _ _ _ h => h) (Or.inl ⟨by rfl, by (intro W _; go_simp)⟩) ?_
  simp only [Act.put, List.setIfInBounds_toArray, List.set_cons_succ, List.set_cons_zero]
  refine wpAnyY_done (by kernel_rfl) ?_ _
  go_wp2
  refine bodyPost_ret (v := .tuple #[.int .i64 e.score, .int .i64 e.i, .int .i64 e.j, .slice ao n cap, .bool e.found]) (by simp [results, go_sem]) rfl ?_
  refine ⟨ao, cap, by rw [HN.out], ?_⟩
  rw [HN.out]; exact HO.out

end Go.Proofs.YtnkfibahkmmnpaaGreat
