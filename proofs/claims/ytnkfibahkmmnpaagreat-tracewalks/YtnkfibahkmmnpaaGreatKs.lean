/-
  Counts of columns, End; the statements' own small. The walk of awake.
-/
import Derived.Shelf.Strings.Count
import Derived.Test.YtnkfibahkmmnpaaGreatVuC
import Derived.Test.YtnkfibahkmmnpaaGreatKq
namespace Go.Proofs.YtnkfibahkmmnpaaGreat
open Go.RowKit

set_option maxRecDepth 20000 in
set_option maxHeartbeats 1000000 in
theorem count_calls (s : ByteArray) (c : UInt8) (w : World) :
    Calls Tryz.prog 25 #[.string s, .string ⟨#[c]⟩] w fun e w' => e = .returned (.int .i64 (Lib.countByte s.data.toList c)) ∧ w' = w := by
  go_enter Tryz.func25, Tryz.ntmps25
  go_wp2
  rw [run_callFunc_extern Tryz.func47 (by kernel_rfl) (by kernel_rfl) (by kernel_rfl) (e := Extern.BytealgCount.count) (by kernel_rfl), Lib.run_countString]
  simp only [Result.andThen]
  rw [Oper.upon_value]
  go_wp2
  go_ret
  exact ⟨rfl, rfl⟩
set_option maxRecDepth 10000 in
theorem tend_calls (I J : Int) (s : ByteArray) (w : World) :
    Calls Tryz.prog 11 #[.agg #[.int .i64 I, .int .i64 J, .string s]] w fun e w' => e = .returned (.tuple #[.int .i64 (wrap64 (wrap64 (I + Lib.countByte s.data.toList 77) + Lib.countByte s.data.toList 68)), .int .i64 (wrap64 (wrap64 (J + Lib.countByte s.data.toList 77) + Lib.countByte s.data.toList 73))]) ∧ Below w.heap.size w w' := by
  have HC : Hid (∀ (c : UInt8) (W : World), Calls Tryz.prog 25 #[.string s, .string ⟨#[c]⟩] W fun e w' => e = .returned (.int .i64 (Lib.countByte s.data.toList c)) ∧ w' = W) := fun c W => count_calls s c W
  generalize s.data.toList = l at *
  go_enter Tryz.func11, Tryz.ntmps11
  go_wp2_with fail
  refine (HC.out 77 _).mono ?_
  rintro e w1 ⟨rfl, rfl⟩
  go_upto_region 2 with (fail)
  go_quiet ((go_at_call 25; exact Calls.quiet_of_same (HC.out _ _)))
  go_wp2
  go_ret2
  exact ⟨rfl, below_drewN (below_new _) _⟩
set_option maxRecDepth 10000 in
set_option maxHeartbeats 2000000 in
theorem small_calls (c : Cd) (s : Ls) (sx sy : Sl) (x y : List Int) (w : World) (h : CdAt w c s) (hx : IntsAt w sx.a sx.n x) (hy : IntsAt w sy.a sy.n y) :
    Calls Tryz.prog 4 #[.agg (cdCells c s), .slice sx.a sx.n sx.c, .slice sy.a sy.n sy.c] w fun e w' => (∃ b, e = .returned (.bool b)) ∧ Below w.heap.size w w' := by
  have h1 := h.table.short
  have h2 := h.consts.short
  have h3 := h.cell.short
  have h4 := h.arrows.short
  have h5 := hx.short
  have h6 := hy.short
  unfold maxLen at h1 h2 h3 h4 h5 h6
  clear h hx hy
  obtain ⟨⟨ta, tn, tc⟩, ⟨ka, kn, kc⟩, ⟨ia, n3, ic⟩, ⟨ra, rn, rc⟩⟩ := s
  obtain ⟨xa, xn, xc⟩ := sx
  obtain ⟨ya, yn, yc⟩ := sy
  simp only at h1 h2 h3 h4 h5 h6
  simp only [cdCells]
  by_cases a0 : 2147483647 < tn
  · have d0 : decide ((2147483647 : Int) < (tn : Int)) = true := by simp; omega
    go_enter Tryz.func4, Tryz.ntmps4
    go_wp2
    go_ret
    exact ⟨⟨_, rfl⟩, below_new _⟩
  have d0 : decide ((2147483647 : Int) < (tn : Int)) = false := by simp; omega
  by_cases a1 : 2147483647 < kn
  · have d1 : decide ((2147483647 : Int) < (kn : Int)) = true := by simp; omega
    go_enter Tryz.func4, Tryz.ntmps4
    go_wp2
    go_ret
    exact ⟨⟨_, rfl⟩, below_new _⟩
  have d1 : decide ((2147483647 : Int) < (kn : Int)) = false := by simp; omega
  by_cases a2 : 2147483647 < n3
  · have d2 : decide ((2147483647 : Int) < (n3 : Int)) = true := by simp; omega
    go_enter Tryz.func4, Tryz.ntmps4
    go_wp2
    go_ret
    exact ⟨⟨_, rfl⟩, below_new _⟩
  have d2 : decide ((2147483647 : Int) < (n3 : Int)) = false := by simp; omega
  by_cases a3 : 2147483647 < rn
  · have d3 : decide ((2147483647 : Int) < (rn : Int)) = true := by simp; omega
    go_enter Tryz.func4, Tryz.ntmps4
    go_wp2
    go_ret
    exact ⟨⟨_, rfl⟩, below_new _⟩
  have d3 : decide ((2147483647 : Int) < (rn : Int)) = false := by simp; omega
  by_cases a4 : 2147483647 < xn
  · have d4 : decide ((2147483647 : Int) < (xn : Int)) = true := by simp; omega
    go_enter Tryz.func4, Tryz.ntmps4
    go_wp2
    go_ret
    exact ⟨⟨_, rfl⟩, below_new _⟩
  have d4 : decide ((2147483647 : Int) < (xn : Int)) = false := by simp; omega
  by_cases a5 : 2147483647 < yn
  · have d5 : decide ((2147483647 : Int) < (yn : Int)) = true := by simp; omega
    go_enter Tryz.func4, Tryz.ntmps4
    go_wp2
    go_ret
    exact ⟨⟨_, rfl⟩, below_new _⟩
  have d5 : decide ((2147483647 : Int) < (yn : Int)) = false := by simp; omega
  by_cases b1 : 65536 < xn
  · have d6 : decide ((65536 : Int) < (xn : Int)) = true := by simp; omega
    clear b1
    go_enter Tryz.func4, Tryz.ntmps4
    go_wp2
    go_ret
    exact ⟨⟨_, rfl⟩, below_new _⟩
  have d6 : decide ((65536 : Int) < (xn : Int)) = false := by simp; omega
  by_cases b2 : 65536 < yn
  · have d7 : decide ((65536 : Int) < (yn : Int)) = true := by simp; omega
    clear b2
    go_enter Tryz.func4, Tryz.ntmps4
    go_wp2
    go_ret
    exact ⟨⟨_, rfl⟩, below_new _⟩
  have d7 : decide ((65536 : Int) < (yn : Int)) = false := by simp; omega
  obtain ⟨N, hN⟩ : ∃ N : Int, ((xn : Int) + 1) * ((yn : Int) + 1) = N := ⟨_, rfl⟩
  have hN1 : 0 ≤ N ∧ N ≤ 65537 * 65537 := by
    rw [← hN]
    exact ⟨Int.mul_nonneg (by omega) (by omega), Int.mul_le_mul (by omega) (by omega) (by omega) (by omega)⟩
  have hN2 := hN1.1
  have hN3 : N ≤ 4295098369 := hN1.2
  clear hN1
  have hx65 : (xn : Int) ≤ 65536 := by omega
  have hy65 : (yn : Int) ≤ 65536 := by omega
  have hn3 : (n3 : Int) ≤ 2147483647 := by omega
  by_cases b3 : (1048576 : Int) < N
  · have d8 : decide ((1048576 : Int) < N) = true := by simpa using b3
    clear b1 b2 b3 a0 a1 a2 a3 a4 a5
    go_enter Tryz.func4, Tryz.ntmps4
    go_wp2
    go_ret
    exact ⟨⟨_, rfl⟩, below_new _⟩
  have d8 : decide ((1048576 : Int) < N) = false := by simpa using b3
  clear b1 b2 b3 a0 a1 a2 a3 a4 a5
  go_enter Tryz.func4, Tryz.ntmps4
  go_wp2
  go_ret
  exact ⟨⟨_, rfl⟩, below_new _⟩
end Go.Proofs.YtnkfibahkmmnpaaGreat
namespace Go.Proofs.YtnkfibahkmmnpaaGreat
open Go.RowKit

theorem ref_ex : refB (chkB exC).2 exC [0, 1] [0, 1] = 0 := by kernel_rfl
theorem ref_ex2 : refB (chkB exC).2 exC [0] [0, 1] = 0 := by kernel_rfl
theorem wlk_ex : wlkF exC [0, 1] [0, 1] = #[.int .i64 2, .int .i64 0, .int .i64 0, .string ⟨#[77, 77]⟩] ∧ wlkE exC [0, 1] [0, 1] = 0 := ⟨by kernel_rfl, by kernel_rfl⟩
theorem wlk_ex2 : wlkF exC [0] [0, 1] = #[.int .i64 0, .int .i64 0, .int .i64 0, .string ⟨#[]⟩] ∧ wlkE exC [0] [0, 1] = 130 := ⟨by kernel_rfl, by kernel_rfl⟩
theorem ints_at {w : World} {g : Nat} {zs : List Int} {n : Nat} (h : w.heap[g]? = some (.cells (zs.map (Value.int .i64)).toArray 3 (0, 0))) (hn : n = zs.length) (hs : n ≤ 1000) : IntsAt w (some ⟨g, 0, none⟩) n zs := by
  subst hn
  exact ints_new h rfl (by unfold maxLen; omega)
theorem three_at (W : World) (o1 o2 o3 : Obj) : (((W.alloc o1).alloc o2).alloc o3).heap[W.heap.size]? = some o1 ∧ (((W.alloc o1).alloc o2).alloc o3).heap[W.heap.size + 1]? = some o2 ∧ (((W.alloc o1).alloc o2).alloc o3).heap[W.heap.size + 1 + 1]? = some o3 ∧ Below W.heap.size W (((W.alloc o1).alloc o2).alloc o3) := by
  have key : ∀ {W : World} {b : Nat} {o : Obj}, W.heap.size = b → (W.alloc o).heap[b]? = some o := fun h => by rw [← h]; exact heap_alloc_new _ _
  refine ⟨?_, ?_, key (by simp), ((below_new _).alloc (by simp) _).alloc (by simp; omega) _⟩
  · rw [(below_new _).block _ (by simp; omega), (below_new _).block _ (by simp)]; exact key rfl
  · rw [(below_new _).block _ (by simp)]; exact key (by simp)
theorem two_at (W : World) (o1 o2 : Obj) : ((W.alloc o1).alloc o2).heap[W.heap.size]? = some o1 ∧ ((W.alloc o1).alloc o2).heap[W.heap.size + 1]? = some o2 ∧ Below W.heap.size W ((W.alloc o1).alloc o2) := by
  have key : ∀ {W : World} {b : Nat} {o : Obj}, W.heap.size = b → (W.alloc o).heap[b]? = some o := fun h => by rw [← h]; exact heap_alloc_new _ _
  refine ⟨?_, key (by simp), (below_new _).alloc (by simp) _⟩
  rw [(below_new _).block _ (by simp)]; exact key rfl
theorem ex_walk {w : World} {g gs : Nat} {sa : Sl} {x y : List Int} {st : Int} (hT : Tb w g gs exC.planes.toNat x.length y.length sa (runM exC x y).slots (runM exC x y).ends st) (ha : w.ownsRow 0 79 4 (.slice sa.a sa.n sa.c) sa.n (qdVals exC.arrows)) (hn : sa.n = exC.arrows.length) (hx : x.length ≤ 10) (hy : y.length ≤ 10) :
    Calls Tryz.prog 8 #[.pointer (some ⟨g, 0, none⟩)] w (WalkPost exC x y w) :=
  walk_calls (gk_of (by kernel_rfl)) hT (qds_owned ha) (by rw [hn]; decide) (by omega) (by omega)
set_option maxRecDepth 10000 in
set_option maxHeartbeats 4000000 in
theorem awake_calls (w : World) :
    Calls Tryz.prog 5 #[] w fun e w' => e = .returned (.bool true) ∧ Below w.heap.size w w' := by
  go_enter Tryz.func5, Tryz.ntmps5
  go_wp2_with fail
  refine (example_calls w).mono ?_
  rintro e w1 ⟨rfl, hat, hb1⟩
  obtain ⟨b, hb⟩ : ∃ b, w.heap.size = b := ⟨_, rfl⟩
  have HB : Hid (w.heap.size = b) := hb
  rw [hb] at hat ⊢
  rw [show cdCells exC (exS b) = #[.int .i64 2, .int .i64 2, .int .i64 2, .int .i64 0, .int .i64 0, .int .i64 5, .slice (some ⟨b + 1, 0, none⟩) 4 4, .slice (some ⟨b + 2, 0, none⟩) 1 1, .slice (some ⟨b + 4, 0, none⟩) 10 10, .slice (some ⟨b + 3, 0, none⟩) 2 2] from rfl]
  have HA : Hid (ExAt w1 b exC.cell ∧ Below w.heap.size w w1) := ⟨hat, hb1⟩
  clear hat hb1 hb
  go_wp2_with fail
  obtain ⟨t1, t2, t3, t4⟩ := three_at w1 (.cells #[.int .i64 2, .int .i64 2, .int .i64 2, .int .i64 0, .int .i64 0, .int .i64 5, .slice (some ⟨b + 1, 0, none⟩) 4 4, .slice (some ⟨b + 2, 0, none⟩) 1 1, .slice (some ⟨b + 4, 0, none⟩) 10 10, .slice (some ⟨b + 3, 0, none⟩) 2 2] 26) (.cells #[.int .i64 0, .int .i64 1] 3) (.cells #[.int .i64 0, .int .i64 1] 3)
  have HX2 : Hid (Bo w1 (((w1.alloc (.cells #[.int .i64 2, .int .i64 2, .int .i64 2, .int .i64 0, .int .i64 0, .int .i64 5, .slice (some ⟨b + 1, 0, none⟩) 4 4, .slice (some ⟨b + 2, 0, none⟩) 1 1, .slice (some ⟨b + 4, 0, none⟩) 10 10, .slice (some ⟨b + 3, 0, none⟩) 2 2] 26)).alloc (.cells #[.int .i64 0, .int .i64 1] 3)).alloc (.cells #[.int .i64 0, .int .i64 1] 3)) #[.int .i64 2, .int .i64 2, .int .i64 2, .int .i64 0, .int .i64 0, .int .i64 5, .slice (some ⟨b + 1, 0, none⟩) 4 4, .slice (some ⟨b + 2, 0, none⟩) 1 1, .slice (some ⟨b + 4, 0, none⟩) 10 10, .slice (some ⟨b + 3, 0, none⟩) 2 2]) := ⟨t4, t1⟩
  refine (run_calls exC (exS b) ⟨some ⟨w1.heap.size + 1, 0, none⟩, 2, 2⟩ ⟨some ⟨w1.heap.size + 1 + 1, 0, none⟩, 2, 2⟩ [0, 1] [0, 1] _ ((HA.out.1.next t4).at' rfl) (ints_at t2 rfl (show 2 ≤ 1000 by decide)) (ints_at t3 rfl (show 2 ≤ 1000 by decide))).mono ?_
  rintro e w3 ⟨hb3, r, rfl, _, h0⟩
  obtain ⟨g, gs, sa, rfl, _, hT, hsa, hsn⟩ := h0 ref_ex
  rw [ref_ex]
  have HX3 : Hid (Bo w1 w3 #[.int .i64 2, .int .i64 2, .int .i64 2, .int .i64 0, .int .i64 0, .int .i64 5, .slice (some ⟨b + 1, 0, none⟩) 4 4, .slice (some ⟨b + 2, 0, none⟩) 1 1, .slice (some ⟨b + 4, 0, none⟩) 10 10, .slice (some ⟨b + 3, 0, none⟩) 2 2]) := HX2.out.next hb3
  have HW3 : Hid (∀ W, Below w3.heap.size w3 W → Calls Tryz.prog 8 #[.pointer (some ⟨g, 0, none⟩)] W (WalkPost exC [0, 1] [0, 1] W)) := fun W hW => ex_walk (hT.next hW) (owned_below (owned_base hsa (Nat.zero_le _)) hW) hsn (by decide) (by decide)
  clear hb3 hT hsa hsn h0 t1 t2 t3 t4 HX2
  have c0 := HX3.out.cell 0 (v := .int .i64 2) rfl
  have c1 := HX3.out.cell 1 (v := .int .i64 2) rfl
  have c2 := HX3.out.cell 2 (v := .int .i64 2) rfl
  have c3 := HX3.out.cell 3 (v := .int .i64 0) rfl
  have c4 := HX3.out.cell 4 (v := .int .i64 0) rfl
  have c5 := HX3.out.cell 5 (v := .int .i64 5) rfl
  have c6 := HX3.out.cell 6 (v := .slice (some ⟨b + 1, 0, none⟩) 4 4) rfl
  have c7 := HX3.out.cell 7 (v := .slice (some ⟨b + 2, 0, none⟩) 1 1) rfl
  have c8 := HX3.out.cell 8 (v := .slice (some ⟨b + 4, 0, none⟩) 10 10) rfl
  have c9 := HX3.out.cell 9 (v := .slice (some ⟨b + 3, 0, none⟩) 2 2) rfl
  go_wp2_with fail
  obtain ⟨u2, u3, u4⟩ := two_at w3 (.cells #[.int .i64 0] 3) (.cells #[.int .i64 0, .int .i64 1] 3)
  refine (run_calls exC (exS b) ⟨some ⟨w3.heap.size, 0, none⟩, 1, 1⟩ ⟨some ⟨w3.heap.size + 1, 0, none⟩, 2, 2⟩ [0] [0, 1] _ ((HA.out.1.next (HX3.out.low.trans (u4.mono HX3.out.low.size))).at' rfl) (ints_at u2 rfl (show 1 ≤ 1000 by decide)) (ints_at u3 rfl (show 2 ≤ 1000 by decide))).mono ?_
  rintro e w4 ⟨hb4, r, rfl, _, h0⟩
  obtain ⟨g2, gs2, sa2, rfl, _, hT2, hsa2, hsn2⟩ := h0 ref_ex2
  rw [ref_ex2]
  have HL4 : Hid (Below w.heap.size w w4) := (HA.out.2.trans (HX3.out.low.mono HA.out.2.size)).trans ((u4.mono (by have h1 := HA.out.2.size; have h2 := HX3.out.low.size; omega)).trans (hb4.mono (by have h1 := HA.out.2.size; have h2 := HX3.out.low.size; have h3 := u4.size; omega)))
  have HB34 : Hid (Below w3.heap.size w3 w4) := u4.trans (hb4.mono u4.size)
  have HW4 : Hid (∀ W, Below w4.heap.size w4 W → Calls Tryz.prog 8 #[.pointer (some ⟨g2, 0, none⟩)] W (WalkPost exC [0] [0, 1] W)) := fun W hW => ex_walk (hT2.next hW) (owned_below (owned_base hsa2 (Nat.zero_le _)) hW) hsn2 (by decide) (by decide)
  clear hb4 hT2 hsa2 hsn2 h0 u2 u3 u4 HX3 HA
  clear c0 c1 c2 c3 c4 c5 c6 c7 c8 c9
  go_wp2_with fail
  refine (HW3.out _ HB34.out).mono ?_
  rintro e w5 ⟨rfl, hb5⟩
  rw [wlk_ex.1, wlk_ex.2]
  have HF : Hid ((w5.alloc (.cells #[.int .i64 2, .int .i64 0, .int .i64 0, .string ⟨#[77, 77]⟩] 39)).heap[w5.heap.size]? = some (.cells #[.int .i64 2, .int .i64 0, .int .i64 0, .string ⟨#[77, 77]⟩] 39 (0, 0)) ∧ Below w.heap.size w (w5.alloc (.cells #[.int .i64 2, .int .i64 0, .int .i64 0, .string ⟨#[77, 77]⟩] 39)) ∧ Below w4.heap.size w4 (w5.alloc (.cells #[.int .i64 2, .int .i64 0, .int .i64 0, .string ⟨#[77, 77]⟩] 39))) := ⟨heap_alloc_new _ _, (HL4.out.trans (hb5.mono HL4.out.size)).alloc (by have h1 := HL4.out.size; have h2 := hb5.size; omega) _, hb5.alloc hb5.size _⟩
  clear hb5 HW3 HL4 HB34
  go_wp2_with fail
  refine (HW4.out _ HF.out.2.2).mono ?_
  rintro e w6 ⟨rfl, hb6⟩
  rw [wlk_ex2.1, wlk_ex2.2]
  have HF6 : Hid (w6.heap[w5.heap.size]? = some (.cells #[.int .i64 2, .int .i64 0, .int .i64 0, .string ⟨#[77, 77]⟩] 39 (0, 0)) ∧ Below w.heap.size w w6) := ⟨by rw [hb6.block _ (lt_block HF.out.1)]; exact HF.out.1, HF.out.2.1.trans (hb6.mono HF.out.2.1.size)⟩
  have HF7 : Hid ((w6.alloc (.cells #[.int .i64 0, .int .i64 0, .int .i64 0, .string ⟨#[]⟩] 39)).heap[w5.heap.size]? = some (.cells #[.int .i64 2, .int .i64 0, .int .i64 0, .string ⟨#[77, 77]⟩] 39 (0, 0)) ∧ Below w.heap.size w (w6.alloc (.cells #[.int .i64 0, .int .i64 0, .int .i64 0, .string ⟨#[]⟩] 39))) := ⟨by rw [(below_new _).block _ (lt_block HF6.out.1)]; exact HF6.out.1, HF6.out.2.alloc HF6.out.2.size _⟩
  clear hb6 HW4 HF HF6
  go_wp2_with fail
  refine (tend_calls 2 3 _ _).mono ?_
  rintro e w8 ⟨rfl, hb8⟩
  rw [show wrap64 (wrap64 (2 + ((Lib.countByte (⟨#[77, 68, 68, 73]⟩ : ByteArray).data.toList 77 : Nat) : Int)) + ((Lib.countByte (⟨#[77, 68, 68, 73]⟩ : ByteArray).data.toList 68 : Nat) : Int)) = 5 by decide +kernel, show wrap64 (wrap64 (3 + ((Lib.countByte (⟨#[77, 68, 68, 73]⟩ : ByteArray).data.toList 77 : Nat) : Int)) + ((Lib.countByte (⟨#[77, 68, 68, 73]⟩ : ByteArray).data.toList 73 : Nat) : Int)) = 5 by decide +kernel]
  have HF8 : Hid (w8.heap[w5.heap.size]? = some (.cells #[.int .i64 2, .int .i64 0, .int .i64 0, .string ⟨#[77, 77]⟩] 39 (0, 0)) ∧ Below w.heap.size w w8) := ⟨by rw [hb8.block _ (lt_block HF7.out.1)]; exact HF7.out.1, HF7.out.2.trans (hb8.mono HF7.out.2.size)⟩
  clear hb8 HF7
  have r0 := cell_block HF8.out.1 0 _ rfl
  have r1 := cell_block HF8.out.1 1 _ rfl
  have r2 := cell_block HF8.out.1 2 _ rfl
  have r3 := cell_block HF8.out.1 3 _ rfl
  go_wp2
  go_ret
  exact ⟨rfl, HF8.out.2⟩

end Go.Proofs.YtnkfibahkmmnpaaGreat
