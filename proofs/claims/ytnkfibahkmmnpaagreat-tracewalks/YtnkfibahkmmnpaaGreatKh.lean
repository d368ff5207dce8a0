/-
  A list of arrows cloned. And what follows.
-/
import Derived.Lib.SliceRun
import Derived.Test.YtnkfibahkmmnpaaGreatKaa
import Derived.Test.YtnkfibahkmmnpaaGreatKk
import Derived.Test.YtnkfibahkmmnpaaGreatVdI
import Derived.Test.YtnkfibahkmmnpaaGreatVdK
namespace Go.Proofs.YtnkfibahkmmnpaaGreat
open Go.RowKit

theorem info41 : (Tryz.prog.info? 79).map (fun i => (i.zero, i.size, i.bytes)) = some (some (.agg #[.int .i64 0, .int .i64 0, .int .i64 0, .int .i64 0]), 4, 32) := by kernel_rfl
theorem empty_row (W : World) (e : TypeId) (size base : Nat) (hb : base ≤ W.heap.size) (g : Nat) (hg : g = W.heap.size) : (W.alloc (.cells #[] e)).ownsRow base e size (.slice (some ⟨g, 0, none⟩) 0 0) 0 [] := by
  subst hg
  refine ⟨by simp, .inr ⟨W.heap.size, 0, #[], rfl, hb, heap_alloc_new W _, ?_⟩⟩
  simp [maxLen]
/-- A row of arrows of the caller's own. -/
def ArPost (l : List Qd) (w : World) (e : Ending) (w' : World) : Prop := ∃ ao cap, e = .returned (.slice ao l.length cap) ∧ w'.ownsRow w.heap.size 79 4 (.slice ao l.length cap) l.length (qdVals l) ∧ Below w.heap.size w w'
theorem QdsAt.src {w : World} {ao : Option Addr} {n : Nat} {l : List Qd} (h : QdsAt w ao n l) : SrcAt w ao n 4 (qdVals l) := by
  refine ⟨by rw [qdVals_length, h.length], fun u hu => ?_, ?_⟩
  · unfold qdVals at hu
    rw [List.mem_flatMap] at hu
    obtain ⟨q, _, hq⟩ := hu
    simp only [qdCells, List.mem_cons, List.not_mem_nil, or_false] at hq
    rcases hq with rfl | rfl | rfl | rfl <;> rfl
  · rcases Nat.eq_zero_or_pos n with h0 | h0
    · have hl : l = [] := List.eq_nil_of_length_eq_zero (by rw [h.length]; exact h0)
      cases ao with
      | none => exact .inl ⟨rfl, h0⟩
      | some ad => exact .inr ⟨ad, rfl, fun j u hj => by rw [hl] at hj; simp [qdVals] at hj⟩
    · obtain ⟨b, off, e, hc⟩ := h.cells h0
      exact .inr ⟨_, e, fun j u hj => h.source _ e j u hj⟩
set_option maxRecDepth 20000 in
set_option maxHeartbeats 1000000 in
theorem cloneA_calls (l : List Qd) (ao : Option Addr) (n sc : Nat) (w : World) (h : QdsAt w ao n l) (hs : n ≤ 100000) :
    Calls Tryz.prog 29 #[.slice ao n sc] w (ArPost l w) := by
  obtain ⟨i0, hi, hz0, hz1, hz2⟩ := info_parts info41
  have q : ∀ (w : World) (a : Option Addr) (n c n' c' : Nat), (binOp .eql 24 (.slice a n c) (.slice none n' c')).run Tryz.prog w = .ok (.bool a.isNone) w := fun w a n c n' c' => Lib.run_eql_slice_nil w _ _ a n c n' c' Tryz.underlying24
  have hl := h.length
  cases ao with
  | none =>
    have h0 : n = 0 := by
      rcases Nat.eq_zero_or_pos n with e | e
      · exact e
      · obtain ⟨_, _, e', _⟩ := h.cells e; cases e'
    subst h0
    have hl0 : l = [] := List.eq_nil_of_length_eq_zero hl
    subst hl0
    clear h hl
    go_enter Tryz.func29, Tryz.ntmps29
    go_wp2
    go_ret
    exact ⟨none, 0, rfl, ⟨by simp [qdVals], .inl ⟨rfl, rfl⟩⟩, Below.refl _ _⟩
  | some sa =>
    have HS : Hid (SrcAt (w.alloc (.cells #[] 79)) (some sa) n 4 (qdVals l)) := (h.below (below_new _)).src
    have HO : Hid ((w.alloc (.cells #[] 79)).ownsRow w.heap.size 79 4 (.slice (some ⟨w.heap.size, 0, none⟩) 0 0) 0 [] ∧ Below w.heap.size w (w.alloc (.cells #[] 79))) := ⟨empty_row w 79 4 w.heap.size (Nat.le_refl _) _ rfl, below_new _⟩
    have HL : Hid (l.length = n) := hl
    clear h hl
    go_enter Tryz.func29, Tryz.ntmps29
    go_wp2_with (at_builtin; refine wpList_append_opt rfl _ _ 24 rfl w.heap.size 79 i0 _ 4 32 Tryz.underlying24 hi hz0 hz1 hz2 rfl (by decide) (.slice (some ⟨w.heap.size, 0, none⟩) 0 0) 0 [] rfl HO.out.1 (some sa) n sc (qdVals l) rfl HS.out (by unfold maxLen; omega) (by omega) HO.out.2.size ?_)
    intro v' w5 ho hg
    obtain ⟨ao5, c5, rfl⟩ := owned_shape ho
    have HN : Hid (w5.ownsRow w.heap.size 79 4 (.slice ao5 n c5) n (qdVals l) ∧ Below w.heap.size w w5) := ⟨by simpa using ho, HO.out.2.grown hg HO.out.2.size (fun k hk => by simp [Value.ownBlock] at hk; omega)⟩
    clear ho hg
    go_wp2
    go_ret
    exact ⟨ao5, c5, by rw [HL.out]; simp, by rw [HL.out]; exact HN.out.1, HN.out.2⟩
/-- Rows of a call's own can be read. -/
theorem ar_at {w w' : World} {base : Nat} {ao : Option Addr} {n cap : Nat} {l : List Qd} (h : w.ownsRow base 79 4 (.slice ao n cap) n (qdVals l)) (hb : Below w.heap.size w w') : QdsAt w' ao n l := (qds_owned h).below hb
end Go.Proofs.YtnkfibahkmmnpaaGreat
namespace Go.Proofs.YtnkfibahkmmnpaaGreat
open Go.RowKit

theorem made3 (n : Nat) : madeCells #[.bool false, .int .u16 0, .int .i64 0] (n * 3) = slC (fun _ => ct0) n := by
  apply Array.ext_getElem?
  intro j
  by_cases hj : j < n * 3
  · have e2 : (slC (fun _ => ct0) n)[j]? = some (ctCell ct0 (j % 3)) := by simp [slC, hj]
    rw [e2]
    have : j % 3 = 0 ∨ j % 3 = 1 ∨ j % 3 = 2 := by omega
    rcases this with e | e | e <;> simp [madeCells, hj, e, ctCell, ct0]
  · rw [Array.getElem?_eq_none (by simp [madeCells]; omega), Array.getElem?_eq_none (by rw [slC_size]; omega)]
theorem info78 : (Tryz.prog.info? 50).map (fun i => (i.zero, i.size, i.bytes)) = some (some (.agg #[.bool false, .int .u16 0, .int .i64 0]), 3, 16) := by kernel_rfl
theorem make_slots (n : Nat) (hn : n ≤ 10485760) (W : World) : (Instr.makeSlice 82 (.int .i64 n) (.int .i64 n)).run Tryz.prog W = .ok (.slice (some ⟨W.heap.size, 0, none⟩) n n) (W.alloc (.cells (slC (fun _ => ct0) n) 50)) := by
  obtain ⟨i, hi, hz, hs, hb⟩ := info_parts info78
  have := run_make (P := Tryz.prog) W 82 50 i _ Tryz.underlying82 hi hz .i64 .i64 n n (by omega) (by omega) (by rw [hb]; omega) (by omega)
  rw [this, hs, Int.toNat_natCast, ← made3]; rfl
theorem few_mul {P X Y : Nat} (h1 : P ≤ 10) (h2 : (X + 1) * (Y + 1) ≤ 1048576) : P * (X + 1) * (Y + 1) ≤ 10485760 ∧ P * (X + 1) ≤ 10485760 ∧ X ≤ 1048576 ∧ Y ≤ 1048576 := by
  have a : P * ((X + 1) * (Y + 1)) ≤ 10 * 1048576 := Nat.mul_le_mul h1 h2
  have b : X + 1 ≤ (X + 1) * (Y + 1) := Nat.le_mul_of_pos_right _ (by omega)
  have c : Y + 1 ≤ (X + 1) * (Y + 1) := Nat.le_mul_of_pos_left _ (by omega)
  have d : P * (X + 1) ≤ 10 * 1048576 := Nat.mul_le_mul h1 (by omega)
  rw [Nat.mul_assoc]
  omega
theorem new_two (w : World) (o1 o2 : Obj) : ((w.alloc o1).alloc o2).heap[w.heap.size + 1]? = some o2 ∧ Below w.heap.size w ((w.alloc o1).alloc o2) :=
  ⟨by have := heap_alloc_new (w.alloc o1) o2; rw [show (w.alloc o1).heap.size = w.heap.size + 1 by simp] at this; exact this, (below_new _).alloc (by simp) _⟩
theorem owned_base {w : World} {base base' : Nat} {e : TypeId} {size : Nat} {v : Value} {n : Nat} {xs : List Value} (h : w.ownsRow base e size v n xs) (hb : base' ≤ base) : w.ownsRow base' e size v n xs := by
  refine ⟨h.1, ?_⟩
  rcases h.2 with hn | ⟨g, cap, cur, hv, hg, rest⟩
  · exact .inl hn
  · exact .inr ⟨g, cap, cur, hv, Nat.le_trans hb hg, rest⟩
set_option maxRecDepth 10000 in
set_option maxHeartbeats 1000000 in
theorem planesOf_calls (P X Y : Nat) (hP : P ≤ 10) (hc : (X + 1) * (Y + 1) ≤ 1048576) (n : Nat) (hn : n = P * (X + 1) * (Y + 1)) (w : World) :
    Calls Tryz.prog 28 #[.int .i64 (P : Int), .int .i64 (X : Int), .int .i64 (Y : Int)] w fun e w' => ∃ gs, e = .returned (.agg #[.int .i64 (P : Int), .int .i64 (X : Int), .int .i64 (Y : Int), .slice (some ⟨gs, 0, none⟩) n n]) ∧ w'.heap[gs]? = some (.cells (slC (fun _ => ct0) n) 50 (0, 0)) ∧ w.heap.size ≤ gs ∧ Below w.heap.size w w' := by
  obtain ⟨f1, f2, f3, f4⟩ := few_mul hP hc
  have hres : Tryz.f28.results = #[.cell 6 84] := by kernel_rfl
  obtain ⟨n1, hn1⟩ : ∃ n1 : Nat, n1 = P * (X + 1) := ⟨_, rfl⟩
  have m1 : (P : Int) * ((X : Int) + 1) = (n1 : Int) := by rw [hn1]; simp
  have m2 : (n1 : Int) * ((Y : Int) + 1) = (n : Int) := by rw [hn, ← hn1]; simp
  have b1 : (n1 : Int) ≤ 10485760 := by omega
  have b2 : (n : Int) ≤ 10485760 := by omega
  have bX : (X : Int) ≤ 1048576 := by omega
  have bY : (Y : Int) ≤ 1048576 := by omega
  have hm := make_slots n (by omega)
  clear hn hn1 f1 f2 f3 f4 hP hc
  go_enter Tryz.func28, Tryz.ntmps28
  go_wp2
  refine bodyPost_ret (v := .agg #[.int .i64 (P : Int), .int .i64 (X : Int), .int .i64 (Y : Int), .slice (some ⟨w.heap.size + 1, 0, none⟩) n n]) ?_ rfl ?_
  · simp only [results, hres]
    go_simp
  · refine ⟨w.heap.size + 1, rfl, ?_, by omega, ?_⟩
    · exact (new_two _ _ _).1
    · exact (new_two _ _ _).2
set_option maxRecDepth 10000 in
set_option maxHeartbeats 2000000 in
theorem tableFor_calls (c : Cd) (s : Ls) (w : World) (h : CdAt w c s) (P X Y : Nat) (hP : P ≤ 10) (hcP : c.planes = P) (hxy : (X + 1) * (Y + 1) ≤ 1048576) (hr : s.r.n ≤ 160) :
    Calls Tryz.prog 13 #[.agg (cdCells c s), .int .i64 (X : Int), .int .i64 (Y : Int)] w fun e w' => ∃ g gs sa, e = .returned (.pointer (some ⟨g, 0, none⟩)) ∧ Tb w' g gs P X Y sa (fun _ => ct0) en0 0 ∧ (w'.ownsRow w.heap.size 79 4 (.slice sa.a sa.n sa.c) sa.n (qdVals c.arrows) ∧ sa.n = c.arrows.length) ∧ (w.heap.size ≤ g ∧ w.heap.size ≤ gs) ∧ Below w.heap.size w w' := by
  obtain ⟨sT, sK, sI, ⟨ra, rn, rc⟩⟩ := s
  have HRl : Hid (c.arrows.length = rn) := h.arrows.length
  have HP : Hid (∀ W, Calls Tryz.prog 28 #[.int .i64 (P : Int), .int .i64 (X : Int), .int .i64 (Y : Int)] W fun e w' => ∃ gs, e = .returned (.agg #[.int .i64 (P : Int), .int .i64 (X : Int), .int .i64 (Y : Int), .slice (some ⟨gs, 0, none⟩) (P * (X + 1) * (Y + 1)) (P * (X + 1) * (Y + 1))]) ∧ w'.heap[gs]? = some (.cells (slC (fun _ => ct0) (P * (X + 1) * (Y + 1))) 50 (0, 0)) ∧ W.heap.size ≤ gs ∧ Below W.heap.size W w') := fun W => planesOf_calls P X Y hP hxy _ rfl W
  have HA : Hid (∀ W, Below w.heap.size w W → Calls Tryz.prog 29 #[.slice ra rn rc] W (ArPost c.arrows W)) := fun W hW => cloneA_calls c.arrows ra rn rc W (h.arrows.below hW) (by simp only at hr; omega)
  have HE : Hid (∀ (w2 : World) (gs : Nat) (aa : Option Addr) (ac : Nat), w2.heap[gs]? = some (.cells (slC (fun _ => ct0) (P * (X + 1) * (Y + 1))) 50 (0, 0)) → w.heap.size ≤ gs → w2.ownsRow w.heap.size 79 4 (.slice aa rn ac) rn (qdVals c.arrows) → Below w.heap.size w w2 → True →
      (fun (e : Ending) (w' : World) => ∃ g gs sa, e = .returned (.pointer (some ⟨g, 0, none⟩)) ∧ Tb w' g gs P X Y sa (fun _ => ct0) en0 0 ∧ (w'.ownsRow w.heap.size 79 4 (.slice sa.a sa.n sa.c) sa.n (qdVals c.arrows) ∧ sa.n = c.arrows.length) ∧ (w.heap.size ≤ g ∧ w.heap.size ≤ gs) ∧ Below w.heap.size w w') (.returned (.pointer (some ⟨w2.heap.size, 0, none⟩))) ((w2.alloc (.cells (tbCells P X Y gs (P * (X + 1) * (Y + 1)) ⟨aa, rn, ac⟩ en0 0) 90)))) := by
    intro w2 gs aa ac hg hle ho hb _
    have hb2 := below_new (w := w2) (.cells (tbCells P X Y gs (P * (X + 1) * (Y + 1)) ⟨aa, rn, ac⟩ en0 0) 90)
    refine ⟨w2.heap.size, gs, ⟨aa, rn, ac⟩, rfl, ⟨heap_alloc_new _ _, ?_, hP, hxy⟩, ⟨?_, HRl.out.symm⟩, ⟨hb.size, hle⟩, hb.trans (hb2.mono hb.size)⟩
    · show (w2.alloc _).heap[gs]? = _
      rw [hb2.block _ (lt_block hg)]; exact hg
    · exact owned_below ho hb2
  have H0 : Hid (Bo w (w.alloc (.cells #[.int .i64 c.letters, .int .i64 c.planes, .int .i64 c.regs, .int .i64 c.lo, .int .i64 c.hi, .int .i64 c.most, .slice sT.a sT.n sT.c, .slice sK.a sK.n sK.c, .slice sI.a sI.n sI.c, .slice ra rn rc] 26)) #[.int .i64 c.letters, .int .i64 c.planes, .int .i64 c.regs, .int .i64 c.lo, .int .i64 c.hi, .int .i64 c.most, .slice sT.a sT.n sT.c, .slice sK.a sK.n sK.c, .slice sI.a sI.n sI.c, .slice ra rn rc]) := ⟨below_new _, heap_alloc_new _ _⟩
  have HcP : Hid (c.planes = P) := hcP
  clear h hr hP hxy hcP
  rw [show cdCells c ⟨sT, sK, sI, ⟨ra, rn, rc⟩⟩ = #[.int .i64 c.letters, .int .i64 c.planes, .int .i64 c.regs, .int .i64 c.lo, .int .i64 c.hi, .int .i64 c.most, .slice sT.a sT.n sT.c, .slice sK.a sK.n sK.c, .slice sI.a sI.n sI.c, .slice ra rn rc] from rfl]
  obtain ⟨n, hn⟩ : ∃ n, P * (X + 1) * (Y + 1) = n := ⟨_, rfl⟩
  rw [hn] at HP HE
  clear hn
  unfold tbCells en0 at HE
  go_enter Tryz.func13, Tryz.ntmps13
  go_upto_region 1 with (fail)
  have HW : Hid (Bo w (w.alloc (.cells #[.int .i64 c.letters, .int .i64 c.planes, .int .i64 c.regs, .int .i64 c.lo, .int .i64 c.hi, .int .i64 c.most, .slice sT.a sT.n sT.c, .slice sK.a sK.n sK.c, .slice sI.a sI.n sI.c, .slice ra rn rc] 26)).drew #[.int .i64 c.letters, .int .i64 c.planes, .int .i64 c.regs, .int .i64 c.lo, .int .i64 c.hi, .int .i64 c.most, .slice sT.a sT.n sT.c, .slice sK.a sK.n sK.c, .slice sI.a sI.n sI.c, .slice ra rn rc]) := ⟨H0.out.low.drew, H0.out.box⟩
  clear H0
  obtain ⟨wd, hwd⟩ : ∃ wd, wd = w.alloc (.cells #[.int .i64 c.letters, .int .i64 c.planes, .int .i64 c.regs, .int .i64 c.lo, .int .i64 c.hi, .int .i64 c.most, .slice sT.a sT.n sT.c, .slice sK.a sK.n sK.c, .slice sI.a sI.n sI.c, .slice ra rn rc] 26) := ⟨_, rfl⟩
  rw [← hwd] at HW ⊢
  clear hwd
  have HS : Hid ((fun W : World => W.cell? ⟨w.heap.size, 1, none⟩ = some (.int .i64 (P : Int)) ∧ W.cell? ⟨w.heap.size, 9, none⟩ = some (.slice ra rn rc)) wd.drew) := ⟨by rw [← HcP.out]; exact HW.out.cell 1 rfl, HW.out.cell 9 rfl⟩
  refine wp_region_Y (fun j => [].contains j) (fun W : World => W.cell? ⟨w.heap.size, 1, none⟩ = some (.int .i64 (P : Int)) ∧ W.cell? ⟨w.heap.size, 9, none⟩ = some (.slice ra rn rc)) (by kernel_rfl) ?_
  refine wpAnyY_pure (i := 0) 7 (v := .pointer (some ⟨w.heap.size, 1, none⟩)) rfl rfl (by kernel_rfl) (by kernel_rfl) (by kernel_rfl) (fun _ _ _ h => h) (Or.inl ⟨by rfl, by (intro W _; go_simp)⟩) ?_
  simp only [Act.put, List.setIfInBounds_toArray, List.set_cons_succ, List.set_cons_zero]
  refine wpAnyY_takeD (i := 1) 8 (v := .int .i64 (P : Int)) rfl rfl (by kernel_rfl) (by kernel_rfl) (late_of (by kernel_rfl)) (by kernel_rfl) (by kernel_rfl) (fun _ _ _ h => h) HS.out (Or.inl ⟨by rfl, by (intro W hW; obtain ⟨e0, e1⟩ := hW; go_simp)⟩) ?_
  simp only [Act.put, List.setIfInBounds_toArray, List.set_cons_succ, List.set_cons_zero]
  refine wpAnyY_pure (i := 2) 9 (v := .int .i64 (X : Int)) rfl rfl (by kernel_rfl) (by kernel_rfl) (by kernel_rfl) (fun _ _ _ h => h) (Or.inl ⟨by rfl, by (intro W _; go_simp)⟩) ?_
  simp only [Act.put, List.setIfInBounds_toArray, List.set_cons_succ, List.set_cons_zero]
  refine wpAnyY_pure (i := 3) 10 (v := .int .i64 (Y : Int)) rfl rfl (by kernel_rfl) (by kernel_rfl) (by kernel_rfl) (fun _ _ _ h => h) (Or.inl ⟨by rfl, by (intro W _; go_simp)⟩) ?_
  simp only [Act.put, List.setIfInBounds_toArray, List.set_cons_succ, List.set_cons_zero]
  refine wpAnyY_pure (i := 5) 12 (v := .pointer (some ⟨w.heap.size, 9, none⟩)) rfl rfl (by kernel_rfl) (by kernel_rfl) (by kernel_rfl) (fun _ _ _ h => h) (Or.inl ⟨by rfl, by (intro W _; go_simp)⟩) ?_
  simp only [Act.put, List.setIfInBounds_toArray, List.set_cons_succ, List.set_cons_zero]
  refine wpAnyY_takeD (i := 6) 13 (v := .slice ra rn rc) rfl rfl (by kernel_rfl) (by kernel_rfl) (late_of (by kernel_rfl)) (by kernel_rfl) (by kernel_rfl) (fun _ _ _ h => h) HS.out (Or.inl ⟨by rfl, by (intro W hW; obtain ⟨e0, e1⟩ := hW; go_simp)⟩) ?_
  simp only [Act.put, List.setIfInBounds_toArray, List.set_cons_succ, List.set_cons_zero]
  refine wpAnyY_one (i := 4) rfl (by kernel_rfl) (fun Kc hKc => ?_)
  · skip
    refine step_fnD 11 rfl (by rfl) 28 _ _ rfl Tryz.f28 Tryz.func28 (by kernel_rfl) (by kernel_rfl) #[.int .i64 (P : Int), .int .i64 (X : Int), .int .i64 (Y : Int)] (by simp [Act.eval]) (HP.out _) ?_
    rintro e w1 ⟨gs, rfl, hgs, hle, hb1⟩
    refine ⟨_, rfl, hKc.out _ _ (fun _ h => ⟨cell_bl hb1 h.1, cell_bl hb1 h.2⟩) ?_⟩
    clear hKc Kc
    simp only [Act.put, List.setIfInBounds_toArray, List.set_cons_succ, List.set_cons_zero]
    refine wpAnyY_one (i := 7) rfl (by kernel_rfl) (fun Kc hKc => ?_)
    refine step_fnD 14 rfl (by rfl) 29 _ _ rfl Tryz.f29 Tryz.func29 (by kernel_rfl) (by kernel_rfl) #[.slice ra rn rc] (by simp [Act.eval]) (HA.out _ (HW.out.low.trans (hb1.mono HW.out.low.size))) ?_
    rintro e w2 ⟨aa, ac, rfl, hao, hb2⟩
    rw [HRl.out] at hao ⊢
    refine ⟨_, rfl, hKc.out _ _ (fun _ h => ⟨cell_bl hb2 h.1, cell_bl hb2 h.2⟩) ?_⟩
    clear hKc Kc
    simp only [Act.put, List.setIfInBounds_toArray, List.set_cons_succ, List.set_cons_zero]
    have HF : Hid (w2.heap[gs]? = some (.cells (slC (fun _ => ct0) n) 50 (0, 0)) ∧ w.heap.size ≤ gs ∧ w2.ownsRow w.heap.size 79 4 (.slice aa rn ac) rn (qdVals c.arrows) ∧ Below w.heap.size w w2 ∧ True) :=
      ⟨by rw [hb2.block _ (lt_block hgs)]; exact hgs, by have h1 := HW.out.low.size; omega, owned_base hao (by have h1 := HW.out.low.size; have h2 := hb1.size; omega), (HW.out.low.trans (hb1.mono HW.out.low.size)).trans (hb2.mono (by have h1 := HW.out.low.size; have h2 := hb1.size; omega)), trivial⟩
    clear hgs hle hao hb1 hb2
    refine wpAnyY_pure (i := 8) 15 (v := .agg #[.int .i64 (P : Int), .int .i64 (X : Int), .int .i64 (Y : Int), .slice (some ⟨gs, 0, none⟩) n n, .slice aa rn ac, .bool false, .int .i64 0, .int .i64 0, .int .i64 0, .bool false, .bool false, .bool false, .bool false, .bool false, .bool false, .bool false, .bool false, .bool false, .bool false, .int .i64 0]) rfl rfl (by kernel_rfl) (by kernel_rfl) (by kernel_rfl) (fun _ _ _ h => h) (Or.inl ⟨by rfl, by (intro W _; go_simp)⟩) ?_
    simp only [Act.put, List.setIfInBounds_toArray, List.set_cons_succ, List.set_cons_zero]
    refine wpAnyY_one (i := 9) rfl (by kernel_rfl) (fun Kc hKc => ?_)
    go_simp
    refine hKc.out _ _ (fun _ h => ⟨cell_al h.1 _, cell_al h.2 _⟩) ?_
    clear hKc Kc
    refine wpAnyY_pure (i := 10) 6 (v := .pointer (some ⟨w2.heap.size, 0, none⟩)) rfl rfl (by kernel_rfl) (by kernel_rfl) (by kernel_rfl) (fun _ _ _ h => h) (Or.inl ⟨by rfl, by (intro W _; go_simp)⟩) ?_
    simp only [Act.put, List.setIfInBounds_toArray, List.set_cons_succ, List.set_cons_zero]
    refine wpAnyY_done (by kernel_rfl) ?_ _
    go_wp2
    go_ret
    obtain ⟨gz, gsz, saz, z1, z2, z3, z4, z5⟩ := HE.out w2 gs aa ac HF.out.1 HF.out.2.1 HF.out.2.2.1 HF.out.2.2.2.1 HF.out.2.2.2.2
    exact ⟨gz, z1, gsz, saz, z2, z3, z4, z5⟩

end Go.Proofs.YtnkfibahkmmnpaaGreat
namespace Go.Proofs.YtnkfibahkmmnpaaGreat
open Go.RowKit

theorem chk_right {c : Cd} (h : (chkB c).2 = 0) : (chkB c) = (-1, 0) := by
  have hg := gk_of h
  have hr : rightB c = true := by
    cases e : rightB c with
    | true => rfl
    | false => unfold chkB at h; rw [if_pos e] at h; exact absurd h (by decide)
  unfold chkB
  rw [if_neg (by rw [hr]; decide), if_neg (by rw [hg.ars]; decide), if_neg (by rw [hg.go]; decide), if_neg (by rw [hg.all]; decide), if_neg (by rw [hg.wid]; decide)]
set_option maxRecDepth 10000 in
set_option maxHeartbeats 2000000 in
theorem refused_calls (c : Cd) (s : Ls) (sx sy : Sl) (x y : List Int) (w : World) (h : CdAt w c s) (hx : IntsAt w sx.a sx.n x) (hy : IntsAt w sy.a sy.n y) :
    Calls Tryz.prog 12 #[.agg (cdCells c s), .slice sx.a sx.n sx.c, .slice sy.a sy.n sy.c] w fun e w' => e = .returned (.int .i64 (refB (chkB c).2 c x y)) ∧ Below w.heap.size w w' := by
  obtain ⟨xa, xn, xc⟩ := sx
  obtain ⟨ya, yn, yc⟩ := sy
  have HCk : Hid (∀ W, Below w.heap.size w W → Calls Tryz.prog 26 #[.agg (cdCells c s)] W fun e w' => e = .returned (.tuple #[.int .i64 (chkB c).1, .int .i64 (chkB c).2]) ∧ Below W.heap.size W w') := fun W hW => check_calls c s W (h.below hW)
  have HX : Hid (IntsAt w xa xn x ∧ IntsAt w ya yn y ∧ x.length = xn ∧ y.length = yn) := ⟨hx, hy, hx.length, hy.length⟩
  have hxs := hx.short
  have hys := hy.short
  unfold maxLen at hxs hys
  have H0 : Hid (Bo w (w.alloc (.cells (cdCells c s) 26)) (cdCells c s)) := ⟨below_new _, heap_alloc_new _ _⟩
  obtain ⟨er, her⟩ : ∃ er, (chkB c).2 = er := ⟨_, rfl⟩
  obtain ⟨at1, hat⟩ : ∃ a, (chkB c).1 = a := ⟨_, rfl⟩
  rw [her, hat] at HCk
  rw [her]
  have HEr : Hid ((chkB c).2 = er) := her
  clear h hx hy her hat
  have hcd : cdCells c s = #[.int .i64 c.letters, .int .i64 c.planes, .int .i64 c.regs, .int .i64 c.lo, .int .i64 c.hi, .int .i64 c.most, .slice s.t.a s.t.n s.t.c, .slice s.k.a s.k.n s.k.c, .slice s.i.a s.i.n s.i.c, .slice s.r.a s.r.n s.r.c] := rfl
  rw [hcd] at HCk H0 ⊢
  clear hcd
  obtain ⟨R, hR⟩ : ∃ R, refB er c x y = R := ⟨_, rfl⟩
  have HRf : Hid (refB er c x y = R) := hR
  rw [hR]
  clear hR
  go_enter Tryz.func12, Tryz.ntmps12
  go_wp2_with fail
  refine (HCk.out _ H0.out.low).mono ?_
  rintro e w1 ⟨rfl, hb1⟩
  have H1 : Hid (Bo w w1 #[.int .i64 c.letters, .int .i64 c.planes, .int .i64 c.regs, .int .i64 c.lo, .int .i64 c.hi, .int .i64 c.most, .slice s.t.a s.t.n s.t.c, .slice s.k.a s.k.n s.k.c, .slice s.i.a s.i.n s.i.c, .slice s.r.a s.r.n s.r.c]) := H0.out.next hb1
  clear hb1 H0 HCk
  by_cases h0 : er = 0
  rotate_left
  · have hd : (er != 0) = true := by simp [h0]
    have HF : Hid (er = R) := by show _ = _; rw [← HRf.out]; unfold refB; rw [if_pos h0]
    clear h0
    go_wp2
    go_ret
    exact ⟨ret_int HF.out, H1.out.low⟩
  have hd : (er != 0) = false := by simp [h0]
  have HG : Hid (Gk c) := gk_of (HEr.out.trans h0)
  have HRf2 : Hid ((if c.most < (xn : Int) ∨ c.most < (yn : Int) then 170 else if letB c.letters x = false ∨ letB c.letters y = false then 11 else if (1048576 : Int) < ((xn : Int) + 1) * ((yn : Int) + 1) then 131 else 0 : Int) = R) := by
    show _ = _
    rw [← HRf.out]
    unfold refB
    rw [if_neg (show ¬ er ≠ 0 from fun h => h h0), HX.out.2.2.1, HX.out.2.2.2]
  clear h0 HRf HEr
  have c0 := H1.out.cell 0 (v := .int .i64 c.letters) rfl
  have c5 := H1.out.cell 5 (v := .int .i64 c.most) rfl
  by_cases h1 : c.most < (xn : Int) ∨ c.most < (yn : Int)
  · have HF : Hid (170 = R) := by show _ = _; rw [← HRf2.out, if_pos h1]
    clear HRf2
    by_cases h1a : c.most < (xn : Int)
    · have hda : decide (c.most < (xn : Int)) = true := by simpa using h1a
      clear h1 h1a
      go_wp2_with fail
      go_wp2
      go_ret
      exact ⟨ret_int HF.out, H1.out.low⟩
    · have h1b : c.most < (yn : Int) := by omega
      have hda : decide (c.most < (xn : Int)) = false := by simpa using h1a
      have hdb : decide (c.most < (yn : Int)) = true := by simpa using h1b
      clear h1 h1a h1b
      go_wp2_with fail
      go_wp2
      go_ret
      exact ⟨ret_int HF.out, H1.out.low⟩
  have hm1 : ¬ c.most < (xn : Int) := by omega
  have hm2 : ¬ c.most < (yn : Int) := by omega
  have hda : decide (c.most < (xn : Int)) = false := by simpa using hm1
  have hdb : decide (c.most < (yn : Int)) = false := by simpa using hm2
  have hx65 : (xn : Int) ≤ 65536 := by have := HG.out.rt.most; omega
  have hy65 : (yn : Int) ≤ 65536 := by have := HG.out.rt.most; omega
  have HRf3 : Hid ((if letB c.letters x = false ∨ letB c.letters y = false then 11 else if (1048576 : Int) < ((xn : Int) + 1) * ((yn : Int) + 1) then 131 else 0 : Int) = R) := by
    show _ = _
    rw [← HRf2.out, if_neg h1]
  clear h1 hm1 hm2 HRf2
  have HLx : Hid (∀ W, Below w.heap.size w W → Calls Tryz.prog 27 #[.int .i64 c.letters, .slice xa xn xc] W fun e w' => e = .returned (.bool (letB c.letters x)) ∧ W = w') := fun W hW => allLetters_calls c.letters xa xn xc x W (HX.out.1.below hW)
  have HLy : Hid (∀ W, Below w.heap.size w W → Calls Tryz.prog 27 #[.int .i64 c.letters, .slice ya yn yc] W fun e w' => e = .returned (.bool (letB c.letters y)) ∧ W = w') := fun W hW => allLetters_calls c.letters ya yn yc y W (HX.out.2.1.below hW)
  obtain ⟨b1, hb1⟩ : ∃ b, letB c.letters x = b := ⟨_, rfl⟩
  obtain ⟨b2, hb2⟩ : ∃ b, letB c.letters y = b := ⟨_, rfl⟩
  rw [hb1, hb2] at HRf3
  rw [hb1] at HLx
  rw [hb2] at HLy
  clear hb1 hb2
  obtain ⟨N, hN⟩ : ∃ N : Int, ((xn : Int) + 1) * ((yn : Int) + 1) = N := ⟨_, rfl⟩
  have hN1 : 0 ≤ N ∧ N ≤ 65537 * 65537 := by
    rw [← hN]
    exact ⟨Int.mul_nonneg (by omega) (by omega), Int.mul_le_mul (by omega) (by omega) (by omega) (by omega)⟩
  rw [hN] at HRf3
  have hN2 := hN1.1
  have hN3 : N ≤ 4295098369 := hN1.2
  clear hN1
  have HB1 : Hid (Below w.heap.size w w1) := H1.out.low
  clear H1
  cases b1
  · have HF : Hid (11 = R) := by show _ = _; rw [← HRf3.out, if_pos (Or.inl rfl)]
    clear HRf3 HLy
    go_wp2_with fail
    refine (HLx.out _ HB1.out).mono ?_
    rintro e w2 ⟨rfl, rfl⟩
    go_wp2
    go_ret
    exact ⟨ret_int HF.out, HB1.out⟩
  cases b2
  · have HF : Hid (11 = R) := by show _ = _; rw [← HRf3.out, if_pos (Or.inr rfl)]
    clear HRf3
    go_wp2_with fail
    refine (HLx.out _ HB1.out).mono ?_
    rintro e w2 ⟨rfl, rfl⟩
    go_wp2_with fail
    refine (HLy.out _ HB1.out).mono ?_
    rintro e w2 ⟨rfl, rfl⟩
    go_wp2
    go_ret
    exact ⟨ret_int HF.out, HB1.out⟩
  have HRf4 : Hid ((if (1048576 : Int) < N then 131 else 0 : Int) = R) := by show _ = _; rw [← HRf3.out]; simp only [Bool.true_eq_false, or_self, if_false]
  clear HRf3
  by_cases h2 : (1048576 : Int) < N
  · have hd2 : decide ((1048576 : Int) < N) = true := by simpa using h2
    have HF : Hid (131 = R) := by show _ = _; rw [← HRf4.out, if_pos h2]
    clear HRf4 h2
    go_wp2_with fail
    refine (HLx.out _ HB1.out).mono ?_
    rintro e w2 ⟨rfl, rfl⟩
    go_wp2_with fail
    refine (HLy.out _ HB1.out).mono ?_
    rintro e w2 ⟨rfl, rfl⟩
    go_wp2
    go_ret
    exact ⟨ret_int HF.out, HB1.out⟩
  · have hd2 : decide ((1048576 : Int) < N) = false := by simpa using h2
    have HF : Hid (0 = R) := by show _ = _; rw [← HRf4.out, if_neg h2]
    clear HRf4 h2
    go_wp2_with fail
    refine (HLx.out _ HB1.out).mono ?_
    rintro e w2 ⟨rfl, rfl⟩
    go_wp2_with fail
    refine (HLy.out _ HB1.out).mono ?_
    rintro e w2 ⟨rfl, rfl⟩
    go_wp2
    go_ret
    exact ⟨ret_int HF.out, HB1.out⟩
end Go.Proofs.YtnkfibahkmmnpaaGreat
namespace Go.Proofs.YtnkfibahkmmnpaaGreat
open Go.RowKit

/-- What Run tells. -/
def RunPost (c : Cd) (x y : List Int) (w : World) (e : Ending) (w' : World) : Prop :=
  Below w.heap.size w w' ∧ ∃ r, e = .returned (.tuple #[r, .int .i64 (refB (chkB c).2 c x y)]) ∧
    (refB (chkB c).2 c x y ≠ 0 → r = .pointer none) ∧
    (refB (chkB c).2 c x y = 0 → ∃ g gs sa, r = .pointer (some ⟨g, 0, none⟩) ∧ (w.heap.size ≤ g ∧ w.heap.size ≤ gs) ∧ Tb w' g gs c.planes.toNat x.length y.length sa (runM c x y).slots (runM c x y).ends (runM c x y).steps ∧
      w'.ownsRow w.heap.size 79 4 (.slice sa.a sa.n sa.c) sa.n (qdVals c.arrows) ∧ sa.n = c.arrows.length)
theorem ref_0 {c : Cd} {x y : List Int} (h : refB (chkB c).2 c x y = 0) : Gk c ∧ ((x.length : Int) ≤ c.most ∧ (y.length : Int) ≤ c.most) ∧ (lettersB c x ∧ lettersB c y) ∧ (x.length + 1) * (y.length + 1) ≤ 1048576 := by
  unfold refB at h
  split at h
  · rename_i e; exact absurd h e
  rename_i e
  split at h
  · exact absurd h (by decide)
  rename_i h1
  split at h
  · exact absurd h (by decide)
  rename_i h2
  split at h
  · exact absurd h (by decide)
  rename_i h3
  have hl : ∀ {l : List Int}, letB c.letters l = true → lettersB c l := fun {l} hb k hk => by
    unfold letB at hb
    rw [List.all_eq_true] at hb
    have := hb (l.getD k 0) (by rw [List.getD, List.getElem?_eq_getElem hk]; exact List.getElem_mem hk)
    generalize l.getD k 0 = z at *
    simp only [Bool.not_eq_true', Bool.or_eq_false_iff, decide_eq_false_iff_not] at this
    omega
  refine ⟨gk_of (by simpa using e), by omega, ⟨hl ?_, hl ?_⟩, ?_⟩
  · cases hb : letB c.letters x with
    | true => rfl
    | false => exact absurd (Or.inl hb) h2
  · cases hb : letB c.letters y with
    | true => rfl
    | false => exact absurd (Or.inr hb) h2
  · have : (((x.length + 1) * (y.length + 1) : Nat) : Int) ≤ 1048576 := by
      rw [Int.natCast_mul]; push_cast; omega
    omega
theorem rn_lit (g : Nat) (c : Cd) (s : Ls) (xa : Option Addr) (xn xc : Nat) (ya : Option Addr) (yn yc : Nat) : (((.pointer (some ⟨g, 0, none⟩) :: .int .i64 c.letters :: .int .i64 c.planes :: .int .i64 c.regs :: .int .i64 c.lo :: .int .i64 c.hi :: .int .i64 c.most :: .slice s.t.a s.t.n s.t.c :: .slice s.k.a s.k.n s.k.c :: .slice s.i.a s.i.n s.i.c :: .slice s.r.a s.r.n s.r.c :: .slice xa xn xc :: .slice ya yn yc :: .int .i64 0 :: .int .i64 0 :: .bool false :: .int .u16 0 :: .int .i64 0 :: .bool false :: .int .u16 0 :: .int .i64 0 :: .bool false :: .int .u16 0 :: .int .i64 0 :: .bool false :: .int .u16 0 :: .int .i64 0 :: .bool false :: .int .u16 0 :: .int .i64 0 :: .bool false :: .int .u16 0 :: .int .i64 0 :: .bool false :: .int .u16 0 :: .int .i64 0 :: .bool false :: .int .u16 0 :: .int .i64 0 :: .bool false :: .int .u16 0 :: .int .i64 0 :: .bool false :: .int .u16 0 :: .int .i64 0 :: .bool false :: .int .u16 0 :: .int .i64 0 :: .bool false :: .int .u16 0 :: .int .i64 0 :: .bool false :: .int .u16 0 :: .int .i64 0 :: .bool false :: .int .u16 0 :: .int .i64 0 :: .bool false :: .int .u16 0 :: .int .i64 0 :: .bool false :: .int .u16 0 :: .int .i64 0 :: []) : List Value).toArray) = rnCells g c s ⟨xa, xn, xc⟩ ⟨ya, yn, yc⟩ 0 0 (fun _ => ct0) := by
  kernel_rfl
theorem lit_one (g : Nat) (c : Cd) (s : Ls) (xa : Option Addr) (xn xc : Nat) (ya : Option Addr) (yn yc : Nat) : (((.pointer (some ⟨g, 0, none⟩) :: .int .i64 c.letters :: .int .i64 c.planes :: .int .i64 c.regs :: .int .i64 c.lo :: .int .i64 c.hi :: .int .i64 c.most :: .slice s.t.a s.t.n s.t.c :: .slice s.k.a s.k.n s.k.c :: .slice s.i.a s.i.n s.i.c :: .slice s.r.a s.r.n s.r.c :: .slice xa xn xc :: .slice ya yn yc :: .int .i64 0 :: .int .i64 0 :: .bool false :: .int .u16 0 :: .int .i64 0 :: .bool false :: .int .u16 0 :: .int .i64 0 :: .bool false :: .int .u16 0 :: .int .i64 0 :: .bool false :: .int .u16 0 :: .int .i64 0 :: .bool false :: .int .u16 0 :: .int .i64 0 :: .bool false :: .int .u16 0 :: .int .i64 0 :: .bool false :: .int .u16 0 :: .int .i64 0 :: .bool false :: .int .u16 0 :: .int .i64 0 :: .bool false :: .int .u16 0 :: .int .i64 0 :: .bool false :: .int .u16 0 :: .int .i64 0 :: .bool false :: .int .u16 0 :: .int .i64 0 :: .bool false :: .int .u16 0 :: .int .i64 0 :: .bool false :: .int .u16 0 :: .int .i64 0 :: .bool false :: .int .u16 0 :: .int .i64 0 :: .bool false :: .int .u16 0 :: .int .i64 0 :: .bool false :: .int .u16 0 :: .int .i64 0 :: []) : List Value).toArray).all (·.oneCell') = true := by
  kernel_rfl
theorem info81s : (Tryz.prog.info? 53).map (·.size) = some 63 := by kernel_rfl
theorem Tb.row2 {w : World} {g gs P X Y : Nat} {sa : Sl} {f : Nat → Ct} {e : En} {st : Int} (h : Tb w g gs P X Y sa f e st) {b : Nat} (h1 : g ≠ b) (h2 : gs ≠ b) (L : Array Value) : Tb (w.setRow b L) g gs P X Y sa f e st :=
  ⟨by rw [setRow_other w b g L h1]; exact h.box, by rw [setRow_other w b gs L h2]; exact h.row, h.few⟩
/-- The blocks of a row of arrows. -/
def arD (w : World) (v : Value) : Nat → Option (Array Value × Nat) := fun t => if v.ownBlock = some t then (match w.heap[t]? with | some (.cells cs _ _) => some (cs, 79) | _ => none) else none
theorem arD_some {w : World} {base n : Nat} {v : Value} {xs : List Value} (h : w.ownsRow base 79 4 v n xs) {t ty : Nat} {cs : Array Value} (ht : arD w v t = some (cs, ty)) : w.heap[t]? = some (.cells cs ty (0, 0)) ∧ ty = 79 := by
  unfold arD at ht
  split at ht
  · rename_i hb
    rcases h.2 with ⟨hv, _⟩ | ⟨g', cap', cur, hv, _, hg, _⟩
    · rw [hv] at hb; cases hb
    · rw [hv] at hb; simp [Value.ownBlock] at hb; subst hb
      rw [hg] at ht
      simp only [Option.some.injEq, Prod.mk.injEq] at ht
      obtain ⟨rfl, rfl⟩ := ht
      exact ⟨hg, rfl⟩
  · cases ht
theorem arD_keeps {w w' : World} {base n : Nat} {v : Value} {xs : List Value} (h : w.ownsRow base 79 4 v n xs) (hk : ∀ t cs ty, arD w v t = some (cs, ty) → w'.heap[t]? = some (.cells cs ty (0, 0))) : w'.ownsRow base 79 4 v n xs :=
  owned_of_block h fun g cur hb hg => by
    rw [hg]
    refine hk g cur 79 ?_
    unfold arD
    rw [if_pos hb, hg]
set_option maxRecDepth 10000 in
set_option maxHeartbeats 4000000 in
theorem run_calls (c : Cd) (s : Ls) (sx sy : Sl) (x y : List Int) (w : World) (h : CdAt w c s) (hx : IntsAt w sx.a sx.n x) (hy : IntsAt w sy.a sy.n y) :
    Calls Tryz.prog 6 #[.agg (cdCells c s), .slice sx.a sx.n sx.c, .slice sy.a sy.n sy.c] w (RunPost c x y w) := by
  obtain ⟨xa, xn, xc⟩ := sx
  obtain ⟨ya, yn, yc⟩ := sy
  have H0 : Hid (Bo w (w.alloc (.cells (cdCells c s) 26)) (cdCells c s)) := ⟨below_new _, heap_alloc_new _ _⟩
  have HR : Hid (∀ W, Below w.heap.size w W → Calls Tryz.prog 12 #[.agg (cdCells c s), .slice xa xn xc, .slice ya yn yc] W fun e w' => e = .returned (.int .i64 (refB (chkB c).2 c x y)) ∧ Below W.heap.size W w') := fun W hW => refused_calls c s ⟨xa, xn, xc⟩ ⟨ya, yn, yc⟩ x y W (h.below hW) (hx.below hW) (hy.below hW)
  have HX : Hid (CdAt w c s ∧ IntsAt w xa xn x ∧ IntsAt w ya yn y ∧ x.length = xn ∧ y.length = yn) := ⟨h, hx, hy, hx.length, hy.length⟩
  have hcd : cdCells c s = #[.int .i64 c.letters, .int .i64 c.planes, .int .i64 c.regs, .int .i64 c.lo, .int .i64 c.hi, .int .i64 c.most, .slice s.t.a s.t.n s.t.c, .slice s.k.a s.k.n s.k.c, .slice s.i.a s.i.n s.i.c, .slice s.r.a s.r.n s.r.c] := rfl
  rw [hcd] at H0 HR ⊢
  clear hcd h hx hy
  obtain ⟨er, her⟩ : ∃ er, refB (chkB c).2 c x y = er := ⟨_, rfl⟩
  have HEr : Hid (refB (chkB c).2 c x y = er) := her
  rw [her] at HR
  clear her
  go_enter Tryz.func6, Tryz.ntmps6
  go_wp2_with fail
  refine (HR.out _ H0.out.low).mono ?_
  rintro e w1 ⟨rfl, hb1⟩
  have H1 : Hid (Bo w w1 #[.int .i64 c.letters, .int .i64 c.planes, .int .i64 c.regs, .int .i64 c.lo, .int .i64 c.hi, .int .i64 c.most, .slice s.t.a s.t.n s.t.c, .slice s.k.a s.k.n s.k.c, .slice s.i.a s.i.n s.i.c, .slice s.r.a s.r.n s.r.c]) := H0.out.next hb1
  clear hb1 H0 HR
  by_cases h0 : er = 0
  rotate_left
  · have hd : (er != 0) = true := by simp [h0]
    have HF : Hid (RunPost c x y w (.returned (.tuple #[.pointer none, .int .i64 er])) w1) := ⟨H1.out.low, .pointer none, by rw [HEr.out], fun _ => rfl, fun e => absurd (HEr.out.symm.trans e) h0⟩
    clear h0
    go_wp2
    go_ret2
    exact HF.out
  have hd : (er != 0) = false := by simp [h0]
  have HOk := ref_0 (HEr.out.trans h0)
  have HG : Hid (Gk c ∧ lettersB c x ∧ lettersB c y ∧ (xn + 1) * (yn + 1) ≤ 1048576) := ⟨HOk.1, HOk.2.2.1.1, HOk.2.2.1.2, by have := HOk.2.2.2; rw [HX.out.2.2.2.1, HX.out.2.2.2.2] at this; exact this⟩
  obtain ⟨P, hP⟩ : ∃ P : Nat, c.planes = P := ⟨c.planes.toNat, by have := HOk.1.rt.planes; omega⟩
  have HP : Hid (c.planes = P ∧ P ≤ 10 ∧ c.planes.toNat = P) := ⟨hP, by have := HOk.1.rt.planes; omega, by omega⟩
  have HPost : Hid (∀ (w' : World) (g gs : Nat) (sa : Sl), Below w.heap.size w w' → (w.heap.size ≤ g ∧ w.heap.size ≤ gs) → Tb w' g gs c.planes.toNat x.length y.length sa (runM c x y).slots (runM c x y).ends (runM c x y).steps → w'.ownsRow w.heap.size 79 4 (.slice sa.a sa.n sa.c) sa.n (qdVals c.arrows) → sa.n = c.arrows.length → RunPost c x y w (.returned (.tuple #[.pointer (some ⟨g, 0, none⟩), .int .i64 0])) w') := fun w' g gs sa a1 a2 a3 a4 a5 =>
    ⟨a1, _, by rw [HEr.out, h0], fun e => absurd (HEr.out.trans h0) e, fun _ => ⟨g, gs, sa, rfl, a2, a3, a4, a5⟩⟩
  clear HEr h0 HOk hP
  have HTF : Hid (∀ W, Below w.heap.size w W → Calls Tryz.prog 13 #[.agg #[.int .i64 c.letters, .int .i64 c.planes, .int .i64 c.regs, .int .i64 c.lo, .int .i64 c.hi, .int .i64 c.most, .slice s.t.a s.t.n s.t.c, .slice s.k.a s.k.n s.k.c, .slice s.i.a s.i.n s.i.c, .slice s.r.a s.r.n s.r.c], .int .i64 (xn : Int), .int .i64 (yn : Int)] W fun e w' => ∃ g gs sa, e = .returned (.pointer (some ⟨g, 0, none⟩)) ∧ Tb w' g gs P xn yn sa (fun _ => ct0) en0 0 ∧ (w'.ownsRow W.heap.size 79 4 (.slice sa.a sa.n sa.c) sa.n (qdVals c.arrows) ∧ sa.n = c.arrows.length) ∧ (W.heap.size ≤ g ∧ W.heap.size ≤ gs) ∧ Below W.heap.size W w') := fun W hW =>
    tableFor_calls c s W (HX.out.1.below hW) P xn yn HP.out.2.1 HP.out.1 HG.out.2.2.2 (by have h1 := HX.out.1.arrows.length; have h2 := HG.out.1.rt.alen; omega)
  have HE : Hid (∀ (w2 : World) (b g gs : Nat) (sa : Sl), (w2.heap[b]? = some (.cells (((.pointer none :: .int .i64 0 :: .int .i64 0 :: .int .i64 0 :: .int .i64 0 :: .int .i64 0 :: .int .i64 0 :: .slice none 0 0 :: .slice none 0 0 :: .slice none 0 0 :: .slice none 0 0 :: .slice none 0 0 :: .slice none 0 0 :: .int .i64 0 :: .int .i64 0 :: .bool false :: .int .u16 0 :: .int .i64 0 :: .bool false :: .int .u16 0 :: .int .i64 0 :: .bool false :: .int .u16 0 :: .int .i64 0 :: .bool false :: .int .u16 0 :: .int .i64 0 :: .bool false :: .int .u16 0 :: .int .i64 0 :: .bool false :: .int .u16 0 :: .int .i64 0 :: .bool false :: .int .u16 0 :: .int .i64 0 :: .bool false :: .int .u16 0 :: .int .i64 0 :: .bool false :: .int .u16 0 :: .int .i64 0 :: .bool false :: .int .u16 0 :: .int .i64 0 :: .bool false :: .int .u16 0 :: .int .i64 0 :: .bool false :: .int .u16 0 :: .int .i64 0 :: .bool false :: .int .u16 0 :: .int .i64 0 :: .bool false :: .int .u16 0 :: .int .i64 0 :: .bool false :: .int .u16 0 :: .int .i64 0 :: .bool false :: .int .u16 0 :: .int .i64 0 :: []) : List Value).toArray) 53 (0, 0)) ∧ Tb w2 g gs P xn yn sa (fun _ => ct0) en0 0 ∧ (w2.ownsRow w.heap.size 79 4 (.slice sa.a sa.n sa.c) sa.n (qdVals c.arrows) ∧ sa.n = c.arrows.length) ∧ (w.heap.size ≤ b ∧ w.heap.size ≤ g ∧ w.heap.size ≤ gs) ∧ Below w.heap.size w w2) →
      ∃ dq, Rn dq w (w2.setRow b (((.pointer (some ⟨g, 0, none⟩) :: .int .i64 c.letters :: .int .i64 c.planes :: .int .i64 c.regs :: .int .i64 c.lo :: .int .i64 c.hi :: .int .i64 c.most :: .slice s.t.a s.t.n s.t.c :: .slice s.k.a s.k.n s.k.c :: .slice s.i.a s.i.n s.i.c :: .slice s.r.a s.r.n s.r.c :: .slice xa xn xc :: .slice ya yn yc :: .int .i64 0 :: .int .i64 0 :: .bool false :: .int .u16 0 :: .int .i64 0 :: .bool false :: .int .u16 0 :: .int .i64 0 :: .bool false :: .int .u16 0 :: .int .i64 0 :: .bool false :: .int .u16 0 :: .int .i64 0 :: .bool false :: .int .u16 0 :: .int .i64 0 :: .bool false :: .int .u16 0 :: .int .i64 0 :: .bool false :: .int .u16 0 :: .int .i64 0 :: .bool false :: .int .u16 0 :: .int .i64 0 :: .bool false :: .int .u16 0 :: .int .i64 0 :: .bool false :: .int .u16 0 :: .int .i64 0 :: .bool false :: .int .u16 0 :: .int .i64 0 :: .bool false :: .int .u16 0 :: .int .i64 0 :: .bool false :: .int .u16 0 :: .int .i64 0 :: .bool false :: .int .u16 0 :: .int .i64 0 :: .bool false :: .int .u16 0 :: .int .i64 0 :: .bool false :: .int .u16 0 :: .int .i64 0 :: []) : List Value).toArray)) b g gs c s ⟨xa, xn, xc⟩ ⟨ya, yn, yc⟩ sa x y 0 0 ms0 ∧ sa.n = c.arrows.length ∧ (∀ w3 : World, (∀ t cs ty, dq t = some (cs, ty) → w3.heap[t]? = some (.cells cs ty (0, 0))) → w3.ownsRow w.heap.size 79 4 (.slice sa.a sa.n sa.c) sa.n (qdVals c.arrows))) := by
    rintro w2 b g gs sa ⟨q1, q2, ⟨q3, q4⟩, q5, q6⟩
    have n1 : g ≠ b := fun e' => by have := q2.box; rw [e', q1] at this; injection this with t1; injection t1 with _ t2; exact absurd t2 (by decide)
    have n2 : gs ≠ b := fun e' => by have := q2.row; rw [e', q1] at this; injection this with t1; injection t1 with _ t2; exact absurd t2 (by decide)
    refine ⟨arD w2 (.slice sa.a sa.n sa.c), ⟨?_, ?_, HX.out.1, HX.out.2.1, HX.out.2.2.1, below_setRow q6 q5.1 _, q5, fun t cs ty ht => ?_⟩, q4, fun w3 hk => arD_keeps q3 hk⟩
    · show _ = some (Obj.cells (rnCells g c s ⟨xa, xn, xc⟩ ⟨ya, yn, yc⟩ 0 0 (fun _ => ct0)) 53 (0, 0))
      rw [← rn_lit]; exact setRow_heap w2 b _ _ 53 (0, 0) q1
    · rw [HP.out.2.2, HX.out.2.2.2.1, HX.out.2.2.2.2]; exact q2.row2 n1 n2 _
    · obtain ⟨a1, rfl⟩ := arD_some q3 ht
      refine ⟨?_, by decide, by decide, by decide⟩
      rw [setRow_other _ _ _ _ (fun e' => by rw [e', q1] at a1; injection a1 with t1; injection t1 with _ t2; exact absurd t2 (by decide))]
      exact a1
  have HS : Hid ((fun W : World => W.cell? ⟨w.heap.size, 0, none⟩ = some (.int .i64 c.letters) ∧ W.cell? ⟨w.heap.size, 1, none⟩ = some (.int .i64 c.planes) ∧ W.cell? ⟨w.heap.size, 2, none⟩ = some (.int .i64 c.regs) ∧ W.cell? ⟨w.heap.size, 3, none⟩ = some (.int .i64 c.lo) ∧ W.cell? ⟨w.heap.size, 4, none⟩ = some (.int .i64 c.hi) ∧ W.cell? ⟨w.heap.size, 5, none⟩ = some (.int .i64 c.most) ∧ W.cell? ⟨w.heap.size, 6, none⟩ = some (.slice s.t.a s.t.n s.t.c) ∧ W.cell? ⟨w.heap.size, 7, none⟩ = some (.slice s.k.a s.k.n s.k.c) ∧ W.cell? ⟨w.heap.size, 8, none⟩ = some (.slice s.i.a s.i.n s.i.c) ∧ W.cell? ⟨w.heap.size, 9, none⟩ = some (.slice s.r.a s.r.n s.r.c)) w1.drew) := ⟨H1.out.cell 0 rfl, H1.out.cell 1 rfl, H1.out.cell 2 rfl, H1.out.cell 3 rfl, H1.out.cell 4 rfl, H1.out.cell 5 rfl, H1.out.cell 6 rfl, H1.out.cell 7 rfl, H1.out.cell 8 rfl, H1.out.cell 9 rfl⟩
  have HL1 : Hid (Below w.heap.size w w1.drew) := H1.out.low.drew
  clear H1
  go_upto_region 4 with (fail)
  refine wp_region_Y (fun j => [11].contains j) (fun W : World => W.cell? ⟨w.heap.size, 0, none⟩ = some (.int .i64 c.letters) ∧ W.cell? ⟨w.heap.size, 1, none⟩ = some (.int .i64 c.planes) ∧ W.cell? ⟨w.heap.size, 2, none⟩ = some (.int .i64 c.regs) ∧ W.cell? ⟨w.heap.size, 3, none⟩ = some (.int .i64 c.lo) ∧ W.cell? ⟨w.heap.size, 4, none⟩ = some (.int .i64 c.hi) ∧ W.cell? ⟨w.heap.size, 5, none⟩ = some (.int .i64 c.most) ∧ W.cell? ⟨w.heap.size, 6, none⟩ = some (.slice s.t.a s.t.n s.t.c) ∧ W.cell? ⟨w.heap.size, 7, none⟩ = some (.slice s.k.a s.k.n s.k.c) ∧ W.cell? ⟨w.heap.size, 8, none⟩ = some (.slice s.i.a s.i.n s.i.c) ∧ W.cell? ⟨w.heap.size, 9, none⟩ = some (.slice s.r.a s.r.n s.r.c)) (by kernel_rfl) ?_
  refine wpAnyY_takeD (i := 0) 17 (v := .agg #[.int .i64 c.letters, .int .i64 c.planes, .int .i64 c.regs, .int .i64 c.lo, .int .i64 c.hi, .int .i64 c.most, .slice s.t.a s.t.n s.t.c, .slice s.k.a s.k.n s.k.c, .slice s.i.a s.i.n s.i.c, .slice s.r.a s.r.n s.r.c]) rfl rfl (by kernel_rfl) (by kernel_rfl) (late_of (by kernel_rfl)) (by kernel_rfl) (by kernel_rfl) (fun _ _ _ h => h) HS.out (Or.inl ⟨by rfl, by (intro W hW; obtain ⟨e0, e1, e2, e3, e4, e5, e6, e7, e8, e9⟩ := hW; go_simp)⟩) ?_
  simp only [Act.put, List.setIfInBounds_toArray, List.set_cons_succ, List.set_cons_zero]
  refine wpAnyY_pure (i := 1) 18 (v := .slice xa xn xc) rfl rfl (by kernel_rfl) (by kernel_rfl) (by kernel_rfl) (fun _ _ _ h => h) (Or.inl ⟨by rfl, by (intro W _; go_simp)⟩) ?_
  simp only [Act.put, List.setIfInBounds_toArray, List.set_cons_succ, List.set_cons_zero]
  refine wpAnyY_pure (i := 2) 19 (v := .int .i64 (xn : Int)) rfl rfl (by kernel_rfl) (by kernel_rfl) (by kernel_rfl) (fun _ _ _ h => h) (Or.inl ⟨by rfl, by (intro W _; go_simp)⟩) ?_
  simp only [Act.put, List.setIfInBounds_toArray, List.set_cons_succ, List.set_cons_zero]
  refine wpAnyY_pure (i := 3) 20 (v := .slice ya yn yc) rfl rfl (by kernel_rfl) (by kernel_rfl) (by kernel_rfl) (fun _ _ _ h => h) (Or.inl ⟨by rfl, by (intro W _; go_simp)⟩) ?_
  simp only [Act.put, List.setIfInBounds_toArray, List.set_cons_succ, List.set_cons_zero]
  refine wpAnyY_pure (i := 4) 21 (v := .int .i64 (yn : Int)) rfl rfl (by kernel_rfl) (by kernel_rfl) (by kernel_rfl) (fun _ _ _ h => h) (Or.inl ⟨by rfl, by (intro W _; go_simp)⟩) ?_
  simp only [Act.put, List.setIfInBounds_toArray, List.set_cons_succ, List.set_cons_zero]
  refine wpAnyY_takeD (i := 6) 23 (v := .agg #[.int .i64 c.letters, .int .i64 c.planes, .int .i64 c.regs, .int .i64 c.lo, .int .i64 c.hi, .int .i64 c.most, .slice s.t.a s.t.n s.t.c, .slice s.k.a s.k.n s.k.c, .slice s.i.a s.i.n s.i.c, .slice s.r.a s.r.n s.r.c]) rfl rfl (by kernel_rfl) (by kernel_rfl) (late_of (by kernel_rfl)) (by kernel_rfl) (by kernel_rfl) (fun _ _ _ h => h) HS.out (Or.inl ⟨by rfl, by (intro W hW; obtain ⟨e0, e1, e2, e3, e4, e5, e6, e7, e8, e9⟩ := hW; go_simp)⟩) ?_
  simp only [Act.put, List.setIfInBounds_toArray, List.set_cons_succ, List.set_cons_zero]
  refine wpAnyY_pure (i := 7) 24 (v := .slice xa xn xc) rfl rfl (by kernel_rfl) (by kernel_rfl) (by kernel_rfl) (fun _ _ _ h => h) (Or.inl ⟨by rfl, by (intro W _; go_simp)⟩) ?_
  simp only [Act.put, List.setIfInBounds_toArray, List.set_cons_succ, List.set_cons_zero]
  refine wpAnyY_pure (i := 8) 25 (v := .slice ya yn yc) rfl rfl (by kernel_rfl) (by kernel_rfl) (by kernel_rfl) (fun _ _ _ h => h) (Or.inl ⟨by rfl, by (intro W _; go_simp)⟩) ?_
  simp only [Act.put, List.setIfInBounds_toArray, List.set_cons_succ, List.set_cons_zero]
  refine wpAnyY_two (i := 5) (j := 10) rfl rfl (by kernel_rfl) (fun Kc hKc => ?_) (fun Kc hKc => ?_)
  · skip
    refine step_fnD 22 rfl (by rfl) 13 _ _ rfl Tryz.f13 Tryz.func13 (by kernel_rfl) (by kernel_rfl) #[.agg #[.int .i64 c.letters, .int .i64 c.planes, .int .i64 c.regs, .int .i64 c.lo, .int .i64 c.hi, .int .i64 c.most, .slice s.t.a s.t.n s.t.c, .slice s.k.a s.k.n s.k.c, .slice s.i.a s.i.n s.i.c, .slice s.r.a s.r.n s.r.c], .int .i64 (xn : Int), .int .i64 (yn : Int)] (by simp [Act.eval]) (HTF.out _ HL1.out) ?_
    rintro e w3 ⟨g, gs, sa, rfl, hT, hO, hle, hb2⟩
    refine ⟨_, rfl, hKc.out _ _ (fun _ h => ⟨cell_bl hb2 h.1, cell_bl hb2 h.2.1, cell_bl hb2 h.2.2.1, cell_bl hb2 h.2.2.2.1, cell_bl hb2 h.2.2.2.2.1, cell_bl hb2 h.2.2.2.2.2.1, cell_bl hb2 h.2.2.2.2.2.2.1, cell_bl hb2 h.2.2.2.2.2.2.2.1, cell_bl hb2 h.2.2.2.2.2.2.2.2.1, cell_bl hb2 h.2.2.2.2.2.2.2.2.2⟩) ?_⟩
    clear hKc Kc
    simp only [Act.put, List.setIfInBounds_toArray, List.set_cons_succ, List.set_cons_zero]
    refine wpAnyY_pure (i := 9) 26 (v := .agg (((.pointer (some ⟨g, 0, none⟩) :: .int .i64 c.letters :: .int .i64 c.planes :: .int .i64 c.regs :: .int .i64 c.lo :: .int .i64 c.hi :: .int .i64 c.most :: .slice s.t.a s.t.n s.t.c :: .slice s.k.a s.k.n s.k.c :: .slice s.i.a s.i.n s.i.c :: .slice s.r.a s.r.n s.r.c :: .slice xa xn xc :: .slice ya yn yc :: .int .i64 0 :: .int .i64 0 :: .bool false :: .int .u16 0 :: .int .i64 0 :: .bool false :: .int .u16 0 :: .int .i64 0 :: .bool false :: .int .u16 0 :: .int .i64 0 :: .bool false :: .int .u16 0 :: .int .i64 0 :: .bool false :: .int .u16 0 :: .int .i64 0 :: .bool false :: .int .u16 0 :: .int .i64 0 :: .bool false :: .int .u16 0 :: .int .i64 0 :: .bool false :: .int .u16 0 :: .int .i64 0 :: .bool false :: .int .u16 0 :: .int .i64 0 :: .bool false :: .int .u16 0 :: .int .i64 0 :: .bool false :: .int .u16 0 :: .int .i64 0 :: .bool false :: .int .u16 0 :: .int .i64 0 :: .bool false :: .int .u16 0 :: .int .i64 0 :: .bool false :: .int .u16 0 :: .int .i64 0 :: .bool false :: .int .u16 0 :: .int .i64 0 :: .bool false :: .int .u16 0 :: .int .i64 0 :: []) : List Value).toArray)) rfl rfl (by kernel_rfl) (by kernel_rfl) (by kernel_rfl) (fun _ _ _ h => h) (Or.inl ⟨by rfl, by (intro W _; go_simp)⟩) ?_
    simp only [Act.put, List.setIfInBounds_toArray, List.set_cons_succ, List.set_cons_zero]
    refine wpAnyY_one (i := 10) rfl (by kernel_rfl) (fun Kc hKc => ?_)
    go_simp
    refine hKc.out _ _ (fun _ h => ⟨cell_al h.1 _, cell_al h.2.1 _, cell_al h.2.2.1 _, cell_al h.2.2.2.1 _, cell_al h.2.2.2.2.1 _, cell_al h.2.2.2.2.2.1 _, cell_al h.2.2.2.2.2.2.1 _, cell_al h.2.2.2.2.2.2.2.1 _, cell_al h.2.2.2.2.2.2.2.2.1 _, cell_al h.2.2.2.2.2.2.2.2.2 _⟩) ?_
    clear hKc Kc
    have HBx : Hid ((w3.alloc (.cells (((.pointer none :: .int .i64 0 :: .int .i64 0 :: .int .i64 0 :: .int .i64 0 :: .int .i64 0 :: .int .i64 0 :: .slice none 0 0 :: .slice none 0 0 :: .slice none 0 0 :: .slice none 0 0 :: .slice none 0 0 :: .slice none 0 0 :: .int .i64 0 :: .int .i64 0 :: .bool false :: .int .u16 0 :: .int .i64 0 :: .bool false :: .int .u16 0 :: .int .i64 0 :: .bool false :: .int .u16 0 :: .int .i64 0 :: .bool false :: .int .u16 0 :: .int .i64 0 :: .bool false :: .int .u16 0 :: .int .i64 0 :: .bool false :: .int .u16 0 :: .int .i64 0 :: .bool false :: .int .u16 0 :: .int .i64 0 :: .bool false :: .int .u16 0 :: .int .i64 0 :: .bool false :: .int .u16 0 :: .int .i64 0 :: .bool false :: .int .u16 0 :: .int .i64 0 :: .bool false :: .int .u16 0 :: .int .i64 0 :: .bool false :: .int .u16 0 :: .int .i64 0 :: .bool false :: .int .u16 0 :: .int .i64 0 :: .bool false :: .int .u16 0 :: .int .i64 0 :: .bool false :: .int .u16 0 :: .int .i64 0 :: .bool false :: .int .u16 0 :: .int .i64 0 :: []) : List Value).toArray) 53)).heap[w3.heap.size]? = some (.cells (((.pointer none :: .int .i64 0 :: .int .i64 0 :: .int .i64 0 :: .int .i64 0 :: .int .i64 0 :: .int .i64 0 :: .slice none 0 0 :: .slice none 0 0 :: .slice none 0 0 :: .slice none 0 0 :: .slice none 0 0 :: .slice none 0 0 :: .int .i64 0 :: .int .i64 0 :: .bool false :: .int .u16 0 :: .int .i64 0 :: .bool false :: .int .u16 0 :: .int .i64 0 :: .bool false :: .int .u16 0 :: .int .i64 0 :: .bool false :: .int .u16 0 :: .int .i64 0 :: .bool false :: .int .u16 0 :: .int .i64 0 :: .bool false :: .int .u16 0 :: .int .i64 0 :: .bool false :: .int .u16 0 :: .int .i64 0 :: .bool false :: .int .u16 0 :: .int .i64 0 :: .bool false :: .int .u16 0 :: .int .i64 0 :: .bool false :: .int .u16 0 :: .int .i64 0 :: .bool false :: .int .u16 0 :: .int .i64 0 :: .bool false :: .int .u16 0 :: .int .i64 0 :: .bool false :: .int .u16 0 :: .int .i64 0 :: .bool false :: .int .u16 0 :: .int .i64 0 :: .bool false :: .int .u16 0 :: .int .i64 0 :: .bool false :: .int .u16 0 :: .int .i64 0 :: []) : List Value).toArray) 53 (0, 0)) ∧ Tb (w3.alloc (.cells (((.pointer none :: .int .i64 0 :: .int .i64 0 :: .int .i64 0 :: .int .i64 0 :: .int .i64 0 :: .int .i64 0 :: .slice none 0 0 :: .slice none 0 0 :: .slice none 0 0 :: .slice none 0 0 :: .slice none 0 0 :: .slice none 0 0 :: .int .i64 0 :: .int .i64 0 :: .bool false :: .int .u16 0 :: .int .i64 0 :: .bool false :: .int .u16 0 :: .int .i64 0 :: .bool false :: .int .u16 0 :: .int .i64 0 :: .bool false :: .int .u16 0 :: .int .i64 0 :: .bool false :: .int .u16 0 :: .int .i64 0 :: .bool false :: .int .u16 0 :: .int .i64 0 :: .bool false :: .int .u16 0 :: .int .i64 0 :: .bool false :: .int .u16 0 :: .int .i64 0 :: .bool false :: .int .u16 0 :: .int .i64 0 :: .bool false :: .int .u16 0 :: .int .i64 0 :: .bool false :: .int .u16 0 :: .int .i64 0 :: .bool false :: .int .u16 0 :: .int .i64 0 :: .bool false :: .int .u16 0 :: .int .i64 0 :: .bool false :: .int .u16 0 :: .int .i64 0 :: .bool false :: .int .u16 0 :: .int .i64 0 :: .bool false :: .int .u16 0 :: .int .i64 0 :: []) : List Value).toArray) 53)) g gs P xn yn sa (fun _ => ct0) en0 0 ∧ ((w3.alloc (.cells (((.pointer none :: .int .i64 0 :: .int .i64 0 :: .int .i64 0 :: .int .i64 0 :: .int .i64 0 :: .int .i64 0 :: .slice none 0 0 :: .slice none 0 0 :: .slice none 0 0 :: .slice none 0 0 :: .slice none 0 0 :: .slice none 0 0 :: .int .i64 0 :: .int .i64 0 :: .bool false :: .int .u16 0 :: .int .i64 0 :: .bool false :: .int .u16 0 :: .int .i64 0 :: .bool false :: .int .u16 0 :: .int .i64 0 :: .bool false :: .int .u16 0 :: .int .i64 0 :: .bool false :: .int .u16 0 :: .int .i64 0 :: .bool false :: .int .u16 0 :: .int .i64 0 :: .bool false :: .int .u16 0 :: .int .i64 0 :: .bool false :: .int .u16 0 :: .int .i64 0 :: .bool false :: .int .u16 0 :: .int .i64 0 :: .bool false :: .int .u16 0 :: .int .i64 0 :: .bool false :: .int .u16 0 :: .int .i64 0 :: .bool false :: .int .u16 0 :: .int .i64 0 :: .bool false :: .int .u16 0 :: .int .i64 0 :: .bool false :: .int .u16 0 :: .int .i64 0 :: .bool false :: .int .u16 0 :: .int .i64 0 :: .bool false :: .int .u16 0 :: .int .i64 0 :: []) : List Value).toArray) 53)).ownsRow w.heap.size 79 4 (.slice sa.a sa.n sa.c) sa.n (qdVals c.arrows) ∧ sa.n = c.arrows.length) ∧ (w.heap.size ≤ w3.heap.size ∧ w.heap.size ≤ g ∧ w.heap.size ≤ gs) ∧ Below w.heap.size w (w3.alloc (.cells (((.pointer none :: .int .i64 0 :: .int .i64 0 :: .int .i64 0 :: .int .i64 0 :: .int .i64 0 :: .int .i64 0 :: .slice none 0 0 :: .slice none 0 0 :: .slice none 0 0 :: .slice none 0 0 :: .slice none 0 0 :: .slice none 0 0 :: .int .i64 0 :: .int .i64 0 :: .bool false :: .int .u16 0 :: .int .i64 0 :: .bool false :: .int .u16 0 :: .int .i64 0 :: .bool false :: .int .u16 0 :: .int .i64 0 :: .bool false :: .int .u16 0 :: .int .i64 0 :: .bool false :: .int .u16 0 :: .int .i64 0 :: .bool false :: .int .u16 0 :: .int .i64 0 :: .bool false :: .int .u16 0 :: .int .i64 0 :: .bool false :: .int .u16 0 :: .int .i64 0 :: .bool false :: .int .u16 0 :: .int .i64 0 :: .bool false :: .int .u16 0 :: .int .i64 0 :: .bool false :: .int .u16 0 :: .int .i64 0 :: .bool false :: .int .u16 0 :: .int .i64 0 :: .bool false :: .int .u16 0 :: .int .i64 0 :: .bool false :: .int .u16 0 :: .int .i64 0 :: .bool false :: .int .u16 0 :: .int .i64 0 :: .bool false :: .int .u16 0 :: .int .i64 0 :: []) : List Value).toArray) 53))) := by
      have h1 := HL1.out.size
      have h2 := hb2.size
      have h3 := below_new (w := w3) (.cells (((.pointer none :: .int .i64 0 :: .int .i64 0 :: .int .i64 0 :: .int .i64 0 :: .int .i64 0 :: .int .i64 0 :: .slice none 0 0 :: .slice none 0 0 :: .slice none 0 0 :: .slice none 0 0 :: .slice none 0 0 :: .slice none 0 0 :: .int .i64 0 :: .int .i64 0 :: .bool false :: .int .u16 0 :: .int .i64 0 :: .bool false :: .int .u16 0 :: .int .i64 0 :: .bool false :: .int .u16 0 :: .int .i64 0 :: .bool false :: .int .u16 0 :: .int .i64 0 :: .bool false :: .int .u16 0 :: .int .i64 0 :: .bool false :: .int .u16 0 :: .int .i64 0 :: .bool false :: .int .u16 0 :: .int .i64 0 :: .bool false :: .int .u16 0 :: .int .i64 0 :: .bool false :: .int .u16 0 :: .int .i64 0 :: .bool false :: .int .u16 0 :: .int .i64 0 :: .bool false :: .int .u16 0 :: .int .i64 0 :: .bool false :: .int .u16 0 :: .int .i64 0 :: .bool false :: .int .u16 0 :: .int .i64 0 :: .bool false :: .int .u16 0 :: .int .i64 0 :: .bool false :: .int .u16 0 :: .int .i64 0 :: .bool false :: .int .u16 0 :: .int .i64 0 :: []) : List Value).toArray) 53)
      exact ⟨heap_alloc_new _ _, hT.next h3, ⟨owned_below (owned_base hO.1 h1) h3, hO.2⟩, ⟨by omega, by omega, by omega⟩, (HL1.out.trans (hb2.mono h1)).trans (h3.mono (by omega))⟩
    clear hT hO hle hb2
    generalize w3.heap.size = b at *
    generalize w3.alloc (.cells (((.pointer none :: .int .i64 0 :: .int .i64 0 :: .int .i64 0 :: .int .i64 0 :: .int .i64 0 :: .int .i64 0 :: .slice none 0 0 :: .slice none 0 0 :: .slice none 0 0 :: .slice none 0 0 :: .slice none 0 0 :: .slice none 0 0 :: .int .i64 0 :: .int .i64 0 :: .bool false :: .int .u16 0 :: .int .i64 0 :: .bool false :: .int .u16 0 :: .int .i64 0 :: .bool false :: .int .u16 0 :: .int .i64 0 :: .bool false :: .int .u16 0 :: .int .i64 0 :: .bool false :: .int .u16 0 :: .int .i64 0 :: .bool false :: .int .u16 0 :: .int .i64 0 :: .bool false :: .int .u16 0 :: .int .i64 0 :: .bool false :: .int .u16 0 :: .int .i64 0 :: .bool false :: .int .u16 0 :: .int .i64 0 :: .bool false :: .int .u16 0 :: .int .i64 0 :: .bool false :: .int .u16 0 :: .int .i64 0 :: .bool false :: .int .u16 0 :: .int .i64 0 :: .bool false :: .int .u16 0 :: .int .i64 0 :: .bool false :: .int .u16 0 :: .int .i64 0 :: .bool false :: .int .u16 0 :: .int .i64 0 :: .bool false :: .int .u16 0 :: .int .i64 0 :: []) : List Value).toArray) 53) = w2 at *
    refine wpAnyY_one (i := 11) rfl (by kernel_rfl) (fun Kc hKc => ?_)
    rw [if_pos (by rfl)]
    refine wp_store_row 53 (.tmp 9) (.tmp 26) rfl b (((.pointer (some ⟨g, 0, none⟩) :: .int .i64 c.letters :: .int .i64 c.planes :: .int .i64 c.regs :: .int .i64 c.lo :: .int .i64 c.hi :: .int .i64 c.most :: .slice s.t.a s.t.n s.t.c :: .slice s.k.a s.k.n s.k.c :: .slice s.i.a s.i.n s.i.c :: .slice s.r.a s.r.n s.r.c :: .slice xa xn xc :: .slice ya yn yc :: .int .i64 0 :: .int .i64 0 :: .bool false :: .int .u16 0 :: .int .i64 0 :: .bool false :: .int .u16 0 :: .int .i64 0 :: .bool false :: .int .u16 0 :: .int .i64 0 :: .bool false :: .int .u16 0 :: .int .i64 0 :: .bool false :: .int .u16 0 :: .int .i64 0 :: .bool false :: .int .u16 0 :: .int .i64 0 :: .bool false :: .int .u16 0 :: .int .i64 0 :: .bool false :: .int .u16 0 :: .int .i64 0 :: .bool false :: .int .u16 0 :: .int .i64 0 :: .bool false :: .int .u16 0 :: .int .i64 0 :: .bool false :: .int .u16 0 :: .int .i64 0 :: .bool false :: .int .u16 0 :: .int .i64 0 :: .bool false :: .int .u16 0 :: .int .i64 0 :: .bool false :: .int .u16 0 :: .int .i64 0 :: .bool false :: .int .u16 0 :: .int .i64 0 :: .bool false :: .int .u16 0 :: .int .i64 0 :: []) : List Value).toArray) (by simp [Act.eval]) (by simp [Act.eval]) 53 (((.pointer none :: .int .i64 0 :: .int .i64 0 :: .int .i64 0 :: .int .i64 0 :: .int .i64 0 :: .int .i64 0 :: .slice none 0 0 :: .slice none 0 0 :: .slice none 0 0 :: .slice none 0 0 :: .slice none 0 0 :: .slice none 0 0 :: .int .i64 0 :: .int .i64 0 :: .bool false :: .int .u16 0 :: .int .i64 0 :: .bool false :: .int .u16 0 :: .int .i64 0 :: .bool false :: .int .u16 0 :: .int .i64 0 :: .bool false :: .int .u16 0 :: .int .i64 0 :: .bool false :: .int .u16 0 :: .int .i64 0 :: .bool false :: .int .u16 0 :: .int .i64 0 :: .bool false :: .int .u16 0 :: .int .i64 0 :: .bool false :: .int .u16 0 :: .int .i64 0 :: .bool false :: .int .u16 0 :: .int .i64 0 :: .bool false :: .int .u16 0 :: .int .i64 0 :: .bool false :: .int .u16 0 :: .int .i64 0 :: .bool false :: .int .u16 0 :: .int .i64 0 :: .bool false :: .int .u16 0 :: .int .i64 0 :: .bool false :: .int .u16 0 :: .int .i64 0 :: .bool false :: .int .u16 0 :: .int .i64 0 :: .bool false :: .int .u16 0 :: .int .i64 0 :: []) : List Value).toArray) HBx.out.1 info81s rfl (lit_one _ _ _ _ _ _ _ _ _) ?_
    refine hKc.out _ _ (fun h => absurd h (by decide)) ?_
    clear hKc Kc
    refine wpAnyY_done (by kernel_rfl) ?_ _
    obtain ⟨dq, hr, hsn, hk⟩ := HE.out _ b g gs sa HBx.out
    have HRn : Hid (Rn dq w (w2.setRow b (((.pointer (some ⟨g, 0, none⟩) :: .int .i64 c.letters :: .int .i64 c.planes :: .int .i64 c.regs :: .int .i64 c.lo :: .int .i64 c.hi :: .int .i64 c.most :: .slice s.t.a s.t.n s.t.c :: .slice s.k.a s.k.n s.k.c :: .slice s.i.a s.i.n s.i.c :: .slice s.r.a s.r.n s.r.c :: .slice xa xn xc :: .slice ya yn yc :: .int .i64 0 :: .int .i64 0 :: .bool false :: .int .u16 0 :: .int .i64 0 :: .bool false :: .int .u16 0 :: .int .i64 0 :: .bool false :: .int .u16 0 :: .int .i64 0 :: .bool false :: .int .u16 0 :: .int .i64 0 :: .bool false :: .int .u16 0 :: .int .i64 0 :: .bool false :: .int .u16 0 :: .int .i64 0 :: .bool false :: .int .u16 0 :: .int .i64 0 :: .bool false :: .int .u16 0 :: .int .i64 0 :: .bool false :: .int .u16 0 :: .int .i64 0 :: .bool false :: .int .u16 0 :: .int .i64 0 :: .bool false :: .int .u16 0 :: .int .i64 0 :: .bool false :: .int .u16 0 :: .int .i64 0 :: .bool false :: .int .u16 0 :: .int .i64 0 :: .bool false :: .int .u16 0 :: .int .i64 0 :: .bool false :: .int .u16 0 :: .int .i64 0 :: .bool false :: .int .u16 0 :: .int .i64 0 :: []) : List Value).toArray)) b g gs c s ⟨xa, xn, xc⟩ ⟨ya, yn, yc⟩ sa x y 0 0 ms0) := hr
    have HK : Hid (sa.n = c.arrows.length ∧ (∀ w3 : World, (∀ t cs ty, dq t = some (cs, ty) → w3.heap[t]? = some (.cells cs ty (0, 0))) → w3.ownsRow w.heap.size 79 4 (.slice sa.a sa.n sa.c) sa.n (qdVals c.arrows))) := ⟨hsn, hk⟩
    clear HBx HE HS hr hsn hk
    generalize w2.setRow b (((.pointer (some ⟨g, 0, none⟩) :: .int .i64 c.letters :: .int .i64 c.planes :: .int .i64 c.regs :: .int .i64 c.lo :: .int .i64 c.hi :: .int .i64 c.most :: .slice s.t.a s.t.n s.t.c :: .slice s.k.a s.k.n s.k.c :: .slice s.i.a s.i.n s.i.c :: .slice s.r.a s.r.n s.r.c :: .slice xa xn xc :: .slice ya yn yc :: .int .i64 0 :: .int .i64 0 :: .bool false :: .int .u16 0 :: .int .i64 0 :: .bool false :: .int .u16 0 :: .int .i64 0 :: .bool false :: .int .u16 0 :: .int .i64 0 :: .bool false :: .int .u16 0 :: .int .i64 0 :: .bool false :: .int .u16 0 :: .int .i64 0 :: .bool false :: .int .u16 0 :: .int .i64 0 :: .bool false :: .int .u16 0 :: .int .i64 0 :: .bool false :: .int .u16 0 :: .int .i64 0 :: .bool false :: .int .u16 0 :: .int .i64 0 :: .bool false :: .int .u16 0 :: .int .i64 0 :: .bool false :: .int .u16 0 :: .int .i64 0 :: .bool false :: .int .u16 0 :: .int .i64 0 :: .bool false :: .int .u16 0 :: .int .i64 0 :: .bool false :: .int .u16 0 :: .int .i64 0 :: .bool false :: .int .u16 0 :: .int .i64 0 :: .bool false :: .int .u16 0 :: .int .i64 0 :: []) : List Value).toArray) = w5 at *
    go_wp2_with fail
    refine (allCells_calls HG.out.1 HRn.out HG.out.2.1 HG.out.2.2.1).mono ?_
    rintro e w6 ⟨rfl, dq2, i, j, hr, hdq⟩
    have HRn2 : Hid (Rn dq2 w w6 b g gs c s ⟨xa, xn, xc⟩ ⟨ya, yn, yc⟩ sa x y i j (runM c x y)) := hr
    have HAr : Hid (w6.ownsRow w.heap.size 79 4 (.slice sa.a sa.n sa.c) sa.n (qdVals c.arrows)) := HK.out.2 w6 fun t cs ty ht => by
      exact (hr.ds t cs ty (hdq t _ ht)).1
    clear hdq
    clear hr HRn
    have d0 := HRn2.out.cell 0 (by omega) (v := .pointer (some ⟨g, 0, none⟩)) rfl
    go_wp2
    go_ret2
    exact HPost.out _ g gs sa HRn2.out.low HRn2.out.le.2 HRn2.out.tb HAr.out HK.out.1
  · skip
    go_simp
    refine hKc.out _ _ (fun _ h => ⟨cell_al h.1 _, cell_al h.2.1 _, cell_al h.2.2.1 _, cell_al h.2.2.2.1 _, cell_al h.2.2.2.2.1 _, cell_al h.2.2.2.2.2.1 _, cell_al h.2.2.2.2.2.2.1 _, cell_al h.2.2.2.2.2.2.2.1 _, cell_al h.2.2.2.2.2.2.2.2.1 _, cell_al h.2.2.2.2.2.2.2.2.2 _⟩) ?_
    clear hKc Kc
    have hz1 : ((w1.alloc (.cells (((.pointer none :: .int .i64 0 :: .int .i64 0 :: .int .i64 0 :: .int .i64 0 :: .int .i64 0 :: .int .i64 0 :: .slice none 0 0 :: .slice none 0 0 :: .slice none 0 0 :: .slice none 0 0 :: .slice none 0 0 :: .slice none 0 0 :: .int .i64 0 :: .int .i64 0 :: .bool false :: .int .u16 0 :: .int .i64 0 :: .bool false :: .int .u16 0 :: .int .i64 0 :: .bool false :: .int .u16 0 :: .int .i64 0 :: .bool false :: .int .u16 0 :: .int .i64 0 :: .bool false :: .int .u16 0 :: .int .i64 0 :: .bool false :: .int .u16 0 :: .int .i64 0 :: .bool false :: .int .u16 0 :: .int .i64 0 :: .bool false :: .int .u16 0 :: .int .i64 0 :: .bool false :: .int .u16 0 :: .int .i64 0 :: .bool false :: .int .u16 0 :: .int .i64 0 :: .bool false :: .int .u16 0 :: .int .i64 0 :: .bool false :: .int .u16 0 :: .int .i64 0 :: .bool false :: .int .u16 0 :: .int .i64 0 :: .bool false :: .int .u16 0 :: .int .i64 0 :: .bool false :: .int .u16 0 :: .int .i64 0 :: .bool false :: .int .u16 0 :: .int .i64 0 :: []) : List Value).toArray) 53)).drew).heap[w1.heap.size]? = some (.cells (((.pointer none :: .int .i64 0 :: .int .i64 0 :: .int .i64 0 :: .int .i64 0 :: .int .i64 0 :: .int .i64 0 :: .slice none 0 0 :: .slice none 0 0 :: .slice none 0 0 :: .slice none 0 0 :: .slice none 0 0 :: .slice none 0 0 :: .int .i64 0 :: .int .i64 0 :: .bool false :: .int .u16 0 :: .int .i64 0 :: .bool false :: .int .u16 0 :: .int .i64 0 :: .bool false :: .int .u16 0 :: .int .i64 0 :: .bool false :: .int .u16 0 :: .int .i64 0 :: .bool false :: .int .u16 0 :: .int .i64 0 :: .bool false :: .int .u16 0 :: .int .i64 0 :: .bool false :: .int .u16 0 :: .int .i64 0 :: .bool false :: .int .u16 0 :: .int .i64 0 :: .bool false :: .int .u16 0 :: .int .i64 0 :: .bool false :: .int .u16 0 :: .int .i64 0 :: .bool false :: .int .u16 0 :: .int .i64 0 :: .bool false :: .int .u16 0 :: .int .i64 0 :: .bool false :: .int .u16 0 :: .int .i64 0 :: .bool false :: .int .u16 0 :: .int .i64 0 :: .bool false :: .int .u16 0 :: .int .i64 0 :: .bool false :: .int .u16 0 :: .int .i64 0 :: []) : List Value).toArray) 53 (0, 0)) := heap_alloc_new w1 _
    have hb1 : Below w1.heap.size w1.drew ((w1.alloc (.cells (((.pointer none :: .int .i64 0 :: .int .i64 0 :: .int .i64 0 :: .int .i64 0 :: .int .i64 0 :: .int .i64 0 :: .slice none 0 0 :: .slice none 0 0 :: .slice none 0 0 :: .slice none 0 0 :: .slice none 0 0 :: .slice none 0 0 :: .int .i64 0 :: .int .i64 0 :: .bool false :: .int .u16 0 :: .int .i64 0 :: .bool false :: .int .u16 0 :: .int .i64 0 :: .bool false :: .int .u16 0 :: .int .i64 0 :: .bool false :: .int .u16 0 :: .int .i64 0 :: .bool false :: .int .u16 0 :: .int .i64 0 :: .bool false :: .int .u16 0 :: .int .i64 0 :: .bool false :: .int .u16 0 :: .int .i64 0 :: .bool false :: .int .u16 0 :: .int .i64 0 :: .bool false :: .int .u16 0 :: .int .i64 0 :: .bool false :: .int .u16 0 :: .int .i64 0 :: .bool false :: .int .u16 0 :: .int .i64 0 :: .bool false :: .int .u16 0 :: .int .i64 0 :: .bool false :: .int .u16 0 :: .int .i64 0 :: .bool false :: .int .u16 0 :: .int .i64 0 :: .bool false :: .int .u16 0 :: .int .i64 0 :: .bool false :: .int .u16 0 :: .int .i64 0 :: []) : List Value).toArray) 53)).drew) := below_new (w := w1.drew) (.cells (((.pointer none :: .int .i64 0 :: .int .i64 0 :: .int .i64 0 :: .int .i64 0 :: .int .i64 0 :: .int .i64 0 :: .slice none 0 0 :: .slice none 0 0 :: .slice none 0 0 :: .slice none 0 0 :: .slice none 0 0 :: .slice none 0 0 :: .int .i64 0 :: .int .i64 0 :: .bool false :: .int .u16 0 :: .int .i64 0 :: .bool false :: .int .u16 0 :: .int .i64 0 :: .bool false :: .int .u16 0 :: .int .i64 0 :: .bool false :: .int .u16 0 :: .int .i64 0 :: .bool false :: .int .u16 0 :: .int .i64 0 :: .bool false :: .int .u16 0 :: .int .i64 0 :: .bool false :: .int .u16 0 :: .int .i64 0 :: .bool false :: .int .u16 0 :: .int .i64 0 :: .bool false :: .int .u16 0 :: .int .i64 0 :: .bool false :: .int .u16 0 :: .int .i64 0 :: .bool false :: .int .u16 0 :: .int .i64 0 :: .bool false :: .int .u16 0 :: .int .i64 0 :: .bool false :: .int .u16 0 :: .int .i64 0 :: .bool false :: .int .u16 0 :: .int .i64 0 :: .bool false :: .int .u16 0 :: .int .i64 0 :: .bool false :: .int .u16 0 :: .int .i64 0 :: []) : List Value).toArray) 53)
    have hs1 : w1.heap.size < ((w1.alloc (.cells (((.pointer none :: .int .i64 0 :: .int .i64 0 :: .int .i64 0 :: .int .i64 0 :: .int .i64 0 :: .int .i64 0 :: .slice none 0 0 :: .slice none 0 0 :: .slice none 0 0 :: .slice none 0 0 :: .slice none 0 0 :: .slice none 0 0 :: .int .i64 0 :: .int .i64 0 :: .bool false :: .int .u16 0 :: .int .i64 0 :: .bool false :: .int .u16 0 :: .int .i64 0 :: .bool false :: .int .u16 0 :: .int .i64 0 :: .bool false :: .int .u16 0 :: .int .i64 0 :: .bool false :: .int .u16 0 :: .int .i64 0 :: .bool false :: .int .u16 0 :: .int .i64 0 :: .bool false :: .int .u16 0 :: .int .i64 0 :: .bool false :: .int .u16 0 :: .int .i64 0 :: .bool false :: .int .u16 0 :: .int .i64 0 :: .bool false :: .int .u16 0 :: .int .i64 0 :: .bool false :: .int .u16 0 :: .int .i64 0 :: .bool false :: .int .u16 0 :: .int .i64 0 :: .bool false :: .int .u16 0 :: .int .i64 0 :: .bool false :: .int .u16 0 :: .int .i64 0 :: .bool false :: .int .u16 0 :: .int .i64 0 :: .bool false :: .int .u16 0 :: .int .i64 0 :: []) : List Value).toArray) 53)).drew).heap.size := by simp
    have hlw : w.heap.size ≤ w1.heap.size := HL1.out.size
    have HL2 : Hid (Below w.heap.size w ((w1.alloc (.cells (((.pointer none :: .int .i64 0 :: .int .i64 0 :: .int .i64 0 :: .int .i64 0 :: .int .i64 0 :: .int .i64 0 :: .slice none 0 0 :: .slice none 0 0 :: .slice none 0 0 :: .slice none 0 0 :: .slice none 0 0 :: .slice none 0 0 :: .int .i64 0 :: .int .i64 0 :: .bool false :: .int .u16 0 :: .int .i64 0 :: .bool false :: .int .u16 0 :: .int .i64 0 :: .bool false :: .int .u16 0 :: .int .i64 0 :: .bool false :: .int .u16 0 :: .int .i64 0 :: .bool false :: .int .u16 0 :: .int .i64 0 :: .bool false :: .int .u16 0 :: .int .i64 0 :: .bool false :: .int .u16 0 :: .int .i64 0 :: .bool false :: .int .u16 0 :: .int .i64 0 :: .bool false :: .int .u16 0 :: .int .i64 0 :: .bool false :: .int .u16 0 :: .int .i64 0 :: .bool false :: .int .u16 0 :: .int .i64 0 :: .bool false :: .int .u16 0 :: .int .i64 0 :: .bool false :: .int .u16 0 :: .int .i64 0 :: .bool false :: .int .u16 0 :: .int .i64 0 :: .bool false :: .int .u16 0 :: .int .i64 0 :: .bool false :: .int .u16 0 :: .int .i64 0 :: []) : List Value).toArray) 53)).drew)) := HL1.out.trans (hb1.mono hlw)
    generalize (w1.alloc (.cells (((.pointer none :: .int .i64 0 :: .int .i64 0 :: .int .i64 0 :: .int .i64 0 :: .int .i64 0 :: .int .i64 0 :: .slice none 0 0 :: .slice none 0 0 :: .slice none 0 0 :: .slice none 0 0 :: .slice none 0 0 :: .slice none 0 0 :: .int .i64 0 :: .int .i64 0 :: .bool false :: .int .u16 0 :: .int .i64 0 :: .bool false :: .int .u16 0 :: .int .i64 0 :: .bool false :: .int .u16 0 :: .int .i64 0 :: .bool false :: .int .u16 0 :: .int .i64 0 :: .bool false :: .int .u16 0 :: .int .i64 0 :: .bool false :: .int .u16 0 :: .int .i64 0 :: .bool false :: .int .u16 0 :: .int .i64 0 :: .bool false :: .int .u16 0 :: .int .i64 0 :: .bool false :: .int .u16 0 :: .int .i64 0 :: .bool false :: .int .u16 0 :: .int .i64 0 :: .bool false :: .int .u16 0 :: .int .i64 0 :: .bool false :: .int .u16 0 :: .int .i64 0 :: .bool false :: .int .u16 0 :: .int .i64 0 :: .bool false :: .int .u16 0 :: .int .i64 0 :: .bool false :: .int .u16 0 :: .int .i64 0 :: .bool false :: .int .u16 0 :: .int .i64 0 :: []) : List Value).toArray) 53)).drew = w4 at *
    generalize w1.heap.size = b at *
    clear hb1
    refine wpAnyY_one (i := 5) rfl (by kernel_rfl) (fun Kc hKc => ?_)
    refine step_fnD 22 rfl (by rfl) 13 _ _ rfl Tryz.f13 Tryz.func13 (by kernel_rfl) (by kernel_rfl) #[.agg #[.int .i64 c.letters, .int .i64 c.planes, .int .i64 c.regs, .int .i64 c.lo, .int .i64 c.hi, .int .i64 c.most, .slice s.t.a s.t.n s.t.c, .slice s.k.a s.k.n s.k.c, .slice s.i.a s.i.n s.i.c, .slice s.r.a s.r.n s.r.c], .int .i64 (xn : Int), .int .i64 (yn : Int)] (by simp [Act.eval]) (HTF.out _ HL2.out) ?_
    rintro e w2 ⟨g, gs, sa, rfl, hT, hO, hle, hb2⟩
    refine ⟨_, rfl, hKc.out _ _ (fun _ h => ⟨cell_bl hb2 h.1, cell_bl hb2 h.2.1, cell_bl hb2 h.2.2.1, cell_bl hb2 h.2.2.2.1, cell_bl hb2 h.2.2.2.2.1, cell_bl hb2 h.2.2.2.2.2.1, cell_bl hb2 h.2.2.2.2.2.2.1, cell_bl hb2 h.2.2.2.2.2.2.2.1, cell_bl hb2 h.2.2.2.2.2.2.2.2.1, cell_bl hb2 h.2.2.2.2.2.2.2.2.2⟩) ?_⟩
    clear hKc Kc
    simp only [Act.put, List.setIfInBounds_toArray, List.set_cons_succ, List.set_cons_zero]
    refine wpAnyY_pure (i := 9) 26 (v := .agg (((.pointer (some ⟨g, 0, none⟩) :: .int .i64 c.letters :: .int .i64 c.planes :: .int .i64 c.regs :: .int .i64 c.lo :: .int .i64 c.hi :: .int .i64 c.most :: .slice s.t.a s.t.n s.t.c :: .slice s.k.a s.k.n s.k.c :: .slice s.i.a s.i.n s.i.c :: .slice s.r.a s.r.n s.r.c :: .slice xa xn xc :: .slice ya yn yc :: .int .i64 0 :: .int .i64 0 :: .bool false :: .int .u16 0 :: .int .i64 0 :: .bool false :: .int .u16 0 :: .int .i64 0 :: .bool false :: .int .u16 0 :: .int .i64 0 :: .bool false :: .int .u16 0 :: .int .i64 0 :: .bool false :: .int .u16 0 :: .int .i64 0 :: .bool false :: .int .u16 0 :: .int .i64 0 :: .bool false :: .int .u16 0 :: .int .i64 0 :: .bool false :: .int .u16 0 :: .int .i64 0 :: .bool false :: .int .u16 0 :: .int .i64 0 :: .bool false :: .int .u16 0 :: .int .i64 0 :: .bool false :: .int .u16 0 :: .int .i64 0 :: .bool false :: .int .u16 0 :: .int .i64 0 :: .bool false :: .int .u16 0 :: .int .i64 0 :: .bool false :: .int .u16 0 :: .int .i64 0 :: .bool false :: .int .u16 0 :: .int .i64 0 :: .bool false :: .int .u16 0 :: .int .i64 0 :: []) : List Value).toArray)) rfl rfl (by kernel_rfl) (by kernel_rfl) (by kernel_rfl) (fun _ _ _ h => h) (Or.inl ⟨by rfl, by (intro W _; go_simp)⟩) ?_
    simp only [Act.put, List.setIfInBounds_toArray, List.set_cons_succ, List.set_cons_zero]
    have HBx : Hid (w2.heap[b]? = some (.cells (((.pointer none :: .int .i64 0 :: .int .i64 0 :: .int .i64 0 :: .int .i64 0 :: .int .i64 0 :: .int .i64 0 :: .slice none 0 0 :: .slice none 0 0 :: .slice none 0 0 :: .slice none 0 0 :: .slice none 0 0 :: .slice none 0 0 :: .int .i64 0 :: .int .i64 0 :: .bool false :: .int .u16 0 :: .int .i64 0 :: .bool false :: .int .u16 0 :: .int .i64 0 :: .bool false :: .int .u16 0 :: .int .i64 0 :: .bool false :: .int .u16 0 :: .int .i64 0 :: .bool false :: .int .u16 0 :: .int .i64 0 :: .bool false :: .int .u16 0 :: .int .i64 0 :: .bool false :: .int .u16 0 :: .int .i64 0 :: .bool false :: .int .u16 0 :: .int .i64 0 :: .bool false :: .int .u16 0 :: .int .i64 0 :: .bool false :: .int .u16 0 :: .int .i64 0 :: .bool false :: .int .u16 0 :: .int .i64 0 :: .bool false :: .int .u16 0 :: .int .i64 0 :: .bool false :: .int .u16 0 :: .int .i64 0 :: .bool false :: .int .u16 0 :: .int .i64 0 :: .bool false :: .int .u16 0 :: .int .i64 0 :: .bool false :: .int .u16 0 :: .int .i64 0 :: []) : List Value).toArray) 53 (0, 0)) ∧ Tb w2 g gs P xn yn sa (fun _ => ct0) en0 0 ∧ (w2.ownsRow w.heap.size 79 4 (.slice sa.a sa.n sa.c) sa.n (qdVals c.arrows) ∧ sa.n = c.arrows.length) ∧ (w.heap.size ≤ b ∧ w.heap.size ≤ g ∧ w.heap.size ≤ gs) ∧ Below w.heap.size w w2) := by
      have h1 := HL2.out.size
      exact ⟨by rw [hb2.block _ hs1]; exact hz1, hT, ⟨owned_base hO.1 h1, hO.2⟩, ⟨hlw, by omega, by omega⟩, HL2.out.trans (hb2.mono h1)⟩
    clear hT hO hle hb2 hz1 hs1 hlw
    refine wpAnyY_one (i := 11) rfl (by kernel_rfl) (fun Kc hKc => ?_)
    rw [if_pos (by rfl)]
    refine wp_store_row 53 (.tmp 9) (.tmp 26) rfl b (((.pointer (some ⟨g, 0, none⟩) :: .int .i64 c.letters :: .int .i64 c.planes :: .int .i64 c.regs :: .int .i64 c.lo :: .int .i64 c.hi :: .int .i64 c.most :: .slice s.t.a s.t.n s.t.c :: .slice s.k.a s.k.n s.k.c :: .slice s.i.a s.i.n s.i.c :: .slice s.r.a s.r.n s.r.c :: .slice xa xn xc :: .slice ya yn yc :: .int .i64 0 :: .int .i64 0 :: .bool false :: .int .u16 0 :: .int .i64 0 :: .bool false :: .int .u16 0 :: .int .i64 0 :: .bool false :: .int .u16 0 :: .int .i64 0 :: .bool false :: .int .u16 0 :: .int .i64 0 :: .bool false :: .int .u16 0 :: .int .i64 0 :: .bool false :: .int .u16 0 :: .int .i64 0 :: .bool false :: .int .u16 0 :: .int .i64 0 :: .bool false :: .int .u16 0 :: .int .i64 0 :: .bool false :: .int .u16 0 :: .int .i64 0 :: .bool false :: .int .u16 0 :: .int .i64 0 :: .bool false :: .int .u16 0 :: .int .i64 0 :: .bool false :: .int .u16 0 :: .int .i64 0 :: .bool false :: .int .u16 0 :: .int .i64 0 :: .bool false :: .int .u16 0 :: .int .i64 0 :: .bool false :: .int .u16 0 :: .int .i64 0 :: .bool false :: .int .u16 0 :: .int .i64 0 :: []) : List Value).toArray) (by simp [Act.eval]) (by simp [Act.eval]) 53 (((.pointer none :: .int .i64 0 :: .int .i64 0 :: .int .i64 0 :: .int .i64 0 :: .int .i64 0 :: .int .i64 0 :: .slice none 0 0 :: .slice none 0 0 :: .slice none 0 0 :: .slice none 0 0 :: .slice none 0 0 :: .slice none 0 0 :: .int .i64 0 :: .int .i64 0 :: .bool false :: .int .u16 0 :: .int .i64 0 :: .bool false :: .int .u16 0 :: .int .i64 0 :: .bool false :: .int .u16 0 :: .int .i64 0 :: .bool false :: .int .u16 0 :: .int .i64 0 :: .bool false :: .int .u16 0 :: .int .i64 0 :: .bool false :: .int .u16 0 :: .int .i64 0 :: .bool false :: .int .u16 0 :: .int .i64 0 :: .bool false :: .int .u16 0 :: .int .i64 0 :: .bool false :: .int .u16 0 :: .int .i64 0 :: .bool false :: .int .u16 0 :: .int .i64 0 :: .bool false :: .int .u16 0 :: .int .i64 0 :: .bool false :: .int .u16 0 :: .int .i64 0 :: .bool false :: .int .u16 0 :: .int .i64 0 :: .bool false :: .int .u16 0 :: .int .i64 0 :: .bool false :: .int .u16 0 :: .int .i64 0 :: .bool false :: .int .u16 0 :: .int .i64 0 :: []) : List Value).toArray) HBx.out.1 info81s rfl (lit_one _ _ _ _ _ _ _ _ _) ?_
    refine hKc.out _ _ (fun h => absurd h (by decide)) ?_
    clear hKc Kc
    refine wpAnyY_done (by kernel_rfl) ?_ _
    obtain ⟨dq, hr, hsn, hk⟩ := HE.out _ b g gs sa HBx.out
    have HRn : Hid (Rn dq w (w2.setRow b (((.pointer (some ⟨g, 0, none⟩) :: .int .i64 c.letters :: .int .i64 c.planes :: .int .i64 c.regs :: .int .i64 c.lo :: .int .i64 c.hi :: .int .i64 c.most :: .slice s.t.a s.t.n s.t.c :: .slice s.k.a s.k.n s.k.c :: .slice s.i.a s.i.n s.i.c :: .slice s.r.a s.r.n s.r.c :: .slice xa xn xc :: .slice ya yn yc :: .int .i64 0 :: .int .i64 0 :: .bool false :: .int .u16 0 :: .int .i64 0 :: .bool false :: .int .u16 0 :: .int .i64 0 :: .bool false :: .int .u16 0 :: .int .i64 0 :: .bool false :: .int .u16 0 :: .int .i64 0 :: .bool false :: .int .u16 0 :: .int .i64 0 :: .bool false :: .int .u16 0 :: .int .i64 0 :: .bool false :: .int .u16 0 :: .int .i64 0 :: .bool false :: .int .u16 0 :: .int .i64 0 :: .bool false :: .int .u16 0 :: .int .i64 0 :: .bool false :: .int .u16 0 :: .int .i64 0 :: .bool false :: .int .u16 0 :: .int .i64 0 :: .bool false :: .int .u16 0 :: .int .i64 0 :: .bool false :: .int .u16 0 :: .int .i64 0 :: .bool false :: .int .u16 0 :: .int .i64 0 :: .bool false :: .int .u16 0 :: .int .i64 0 :: .bool false :: .int .u16 0 :: .int .i64 0 :: []) : List Value).toArray)) b g gs c s ⟨xa, xn, xc⟩ ⟨ya, yn, yc⟩ sa x y 0 0 ms0) := hr
    have HK : Hid (sa.n = c.arrows.length ∧ (∀ w3 : World, (∀ t cs ty, dq t = some (cs, ty) → w3.heap[t]? = some (.cells cs ty (0, 0))) → w3.ownsRow w.heap.size 79 4 (.slice sa.a sa.n sa.c) sa.n (qdVals c.arrows))) := ⟨hsn, hk⟩
    clear HBx HE HS hr hsn hk
    generalize w2.setRow b (((.pointer (some ⟨g, 0, none⟩) :: .int .i64 c.letters :: .int .i64 c.planes :: .int .i64 c.regs :: .int .i64 c.lo :: .int .i64 c.hi :: .int .i64 c.most :: .slice s.t.a s.t.n s.t.c :: .slice s.k.a s.k.n s.k.c :: .slice s.i.a s.i.n s.i.c :: .slice s.r.a s.r.n s.r.c :: .slice xa xn xc :: .slice ya yn yc :: .int .i64 0 :: .int .i64 0 :: .bool false :: .int .u16 0 :: .int .i64 0 :: .bool false :: .int .u16 0 :: .int .i64 0 :: .bool false :: .int .u16 0 :: .int .i64 0 :: .bool false :: .int .u16 0 :: .int .i64 0 :: .bool false :: .int .u16 0 :: .int .i64 0 :: .bool false :: .int .u16 0 :: .int .i64 0 :: .bool false :: .int .u16 0 :: .int .i64 0 :: .bool false :: .int .u16 0 :: .int .i64 0 :: .bool false :: .int .u16 0 :: .int .i64 0 :: .bool false :: .int .u16 0 :: .int .i64 0 :: .bool false :: .int .u16 0 :: .int .i64 0 :: .bool false :: .int .u16 0 :: .int .i64 0 :: .bool false :: .int .u16 0 :: .int .i64 0 :: .bool false :: .int .u16 0 :: .int .i64 0 :: .bool false :: .int .u16 0 :: .int .i64 0 :: .bool false :: .int .u16 0 :: .int .i64 0 :: []) : List Value).toArray) = w5 at *
    go_wp2_with fail
    refine (allCells_calls HG.out.1 HRn.out HG.out.2.1 HG.out.2.2.1).mono ?_
    rintro e w6 ⟨rfl, dq2, i, j, hr, hdq⟩
    have HRn2 : Hid (Rn dq2 w w6 b g gs c s ⟨xa, xn, xc⟩ ⟨ya, yn, yc⟩ sa x y i j (runM c x y)) := hr
    have HAr : Hid (w6.ownsRow w.heap.size 79 4 (.slice sa.a sa.n sa.c) sa.n (qdVals c.arrows)) := HK.out.2 w6 fun t cs ty ht => by
      exact (hr.ds t cs ty (hdq t _ ht)).1
    clear hdq
    clear hr HRn
    have d0 := HRn2.out.cell 0 (by omega) (v := .pointer (some ⟨g, 0, none⟩)) rfl
    go_wp2
    go_ret2
    exact HPost.out _ g gs sa HRn2.out.low HRn2.out.le.2 HRn2.out.tb HAr.out HK.out.1

end Go.Proofs.YtnkfibahkmmnpaaGreat
