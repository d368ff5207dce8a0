/-
  The walk of awake.
-/
import Derived.Test.YtjpeoejielamiaaVuC
import Derived.Test.YtjpeoejielamiaaKe
namespace Go.Proofs.Ytjpeoejielamiaa
open Go.RowKit

theorem ref_ex : refB (chkB exC).2 exC [0, 1] [0, 1] = 0 := by kernel_rfl
theorem ref_ex2 : refB (chkB exC).2 exC [2] [] = 11 := by kernel_rfl
theorem ex_pl : exC.planes.toNat = 2 := rfl
theorem ex_at1 : (atB 2 2 2 (runM exC [0, 1] [0, 1]).slots 1 2 2).num = 2 ∧ (atB 2 2 2 (runM exC [0, 1] [0, 1]).slots 1 2 2).has = true ∧ (atB 2 2 2 (runM exC [0, 1] [0, 1]).slots 1 2 2).mask = 2 := ⟨by kernel_rfl, by kernel_rfl, by kernel_rfl⟩
theorem ex_at0 : (atB 2 2 2 (runM exC [0, 1] [0, 1]).slots 0 1 1).num = 0 ∧ (atB 2 2 2 (runM exC [0, 1] [0, 1]).slots 0 1 1).has = false := ⟨by kernel_rfl, by kernel_rfl⟩
theorem ex_end : (runM exC [0, 1] [0, 1]).ends.score = 2 ∧ (runM exC [0, 1] [0, 1]).ends.i = 2 ∧ (runM exC [0, 1] [0, 1]).ends.j = 2 ∧ (runM exC [0, 1] [0, 1]).ends.found = true ∧ risB (runM exC [0, 1] [0, 1]).ends = [1] ∧ (runM exC [0, 1] [0, 1]).steps = 30 := ⟨by kernel_rfl, by kernel_rfl, by kernel_rfl, by kernel_rfl, by kernel_rfl, by kernel_rfl⟩
theorem ints_at {w : World} {g : Nat} {zs : List Int} {n : Nat} (h : w.heap[g]? = some (.cells (zs.map (Value.int .i64)).toArray 3 (0, 0))) (hn : n = zs.length) (hs : n ≤ 1000) : IntsAt w (some ⟨g, 0, none⟩) n zs := by
  subst hn
  exact ints_new h rfl (by unfold maxLen; omega)
theorem three_at (W : World) (o1 o2 o3 : Obj) : (((W.alloc o1).alloc o2).alloc o3).heap[W.heap.size]? = some o1 ∧ (((W.alloc o1).alloc o2).alloc o3).heap[W.heap.size + 1]? = some o2 ∧ (((W.alloc o1).alloc o2).alloc o3).heap[W.heap.size + 1 + 1]? = some o3 ∧ Below W.heap.size W (((W.alloc o1).alloc o2).alloc o3) := by
  have key : ∀ {W : World} {b : Nat} {o : Obj}, W.heap.size = b → (W.alloc o).heap[b]? = some o := fun h => by rw [← h]; exact heap_alloc_new _ _
  refine ⟨?_, ?_, key (by simp), ((below_new _).alloc (by simp) _).alloc (by simp; omega) _⟩
  · rw [(below_new _).block _ (by simp; omega), (below_new _).block _ (by simp)]; exact key rfl
  · rw [(below_new _).block _ (by simp)]; exact key (by simp)
set_option maxRecDepth 10000 in
set_option maxHeartbeats 4000000 in
theorem awake_calls (w : World) :
    Calls Try.prog 10 #[] w fun e w' => e = .returned (.bool true) ∧ Below w.heap.size w w' := by
  go_enter Try.func10, Try.ntmps10
  go_wp2_with fail
  refine (example_calls w).mono ?_
  rintro e w1 ⟨rfl, hat, hb1⟩
  obtain ⟨b, hb⟩ : ∃ b, w.heap.size = b := ⟨_, rfl⟩
  have HB : Hid (w.heap.size = b) := hb
  rw [hb] at hat ⊢
  rw [show cdCells exC (exS b) = #[.int .i64 2, .int .i64 2, .int .i64 2, .int .i64 0, .int .i64 0, .int .i64 5, .slice (some ⟨b + 1, 0, none⟩) 4 4, .slice (some ⟨b + 2, 0, none⟩) 1 1, .slice (some ⟨b + 4, 0, none⟩) 10 10, .slice (some ⟨b + 3, 0, none⟩) 2 2] from rfl]
  have HX : Hid (Bo w1 (w1.alloc (.cells #[.int .i64 2, .int .i64 2, .int .i64 2, .int .i64 0, .int .i64 0, .int .i64 5, .slice (some ⟨b + 1, 0, none⟩) 4 4, .slice (some ⟨b + 2, 0, none⟩) 1 1, .slice (some ⟨b + 4, 0, none⟩) 10 10, .slice (some ⟨b + 3, 0, none⟩) 2 2] 26)) #[.int .i64 2, .int .i64 2, .int .i64 2, .int .i64 0, .int .i64 0, .int .i64 5, .slice (some ⟨b + 1, 0, none⟩) 4 4, .slice (some ⟨b + 2, 0, none⟩) 1 1, .slice (some ⟨b + 4, 0, none⟩) 10 10, .slice (some ⟨b + 3, 0, none⟩) 2 2]) := ⟨below_new _, heap_alloc_new _ _⟩
  have HA : Hid (ExAt w1 b exC.cell ∧ Below w.heap.size w w1) := ⟨hat, hb1⟩
  clear hat hb1 hb
  go_wp2_with fail
  obtain ⟨t1, t2, t3, t4⟩ := three_at w1 (.cells #[.int .i64 2, .int .i64 2, .int .i64 2, .int .i64 0, .int .i64 0, .int .i64 5, .slice (some ⟨b + 1, 0, none⟩) 4 4, .slice (some ⟨b + 2, 0, none⟩) 1 1, .slice (some ⟨b + 4, 0, none⟩) 10 10, .slice (some ⟨b + 3, 0, none⟩) 2 2] 26) (.cells #[.int .i64 0, .int .i64 1] 3) (.cells #[.int .i64 0, .int .i64 1] 3)
  have HX2 : Hid (Bo w1 (((w1.alloc (.cells #[.int .i64 2, .int .i64 2, .int .i64 2, .int .i64 0, .int .i64 0, .int .i64 5, .slice (some ⟨b + 1, 0, none⟩) 4 4, .slice (some ⟨b + 2, 0, none⟩) 1 1, .slice (some ⟨b + 4, 0, none⟩) 10 10, .slice (some ⟨b + 3, 0, none⟩) 2 2] 26)).alloc (.cells #[.int .i64 0, .int .i64 1] 3)).alloc (.cells #[.int .i64 0, .int .i64 1] 3)) #[.int .i64 2, .int .i64 2, .int .i64 2, .int .i64 0, .int .i64 0, .int .i64 5, .slice (some ⟨b + 1, 0, none⟩) 4 4, .slice (some ⟨b + 2, 0, none⟩) 1 1, .slice (some ⟨b + 4, 0, none⟩) 10 10, .slice (some ⟨b + 3, 0, none⟩) 2 2]) := ⟨t4, t1⟩
  refine (run_calls exC (exS b) ⟨some ⟨w1.heap.size + 1, 0, none⟩, 2, 2⟩ ⟨some ⟨w1.heap.size + 1 + 1, 0, none⟩, 2, 2⟩ [0, 1] [0, 1] _ ((HA.out.1.next t4).at' rfl) (ints_at t2 rfl (show 2 ≤ 1000 by decide)) (ints_at t3 rfl (show 2 ≤ 1000 by decide))).mono ?_
  rintro e w3 ⟨hb3, r, rfl, _, h0⟩
  obtain ⟨g, gs, sa, rfl, _, hT, _⟩ := h0 ref_ex
  rw [ref_ex]
  obtain ⟨R, hR⟩ : ∃ R, runM exC [0, 1] [0, 1] = R := ⟨_, rfl⟩
  have HF : Hid ((runM exC [0, 1] [0, 1]) = R) := hR
  rw [hR] at hT
  have HX3 : Hid (Bo w1 w3 #[.int .i64 2, .int .i64 2, .int .i64 2, .int .i64 0, .int .i64 0, .int .i64 5, .slice (some ⟨b + 1, 0, none⟩) 4 4, .slice (some ⟨b + 2, 0, none⟩) 1 1, .slice (some ⟨b + 4, 0, none⟩) 10 10, .slice (some ⟨b + 3, 0, none⟩) 2 2]) := HX2.out.next hb3
  have HT : Hid (Tb w3 g gs 2 2 2 sa R.slots R.ends R.steps) := hT
  clear hb3 hT h0 t1 t2 t3 t4 HX HX2 hR
  have c0 := HX3.out.cell 0 (v := .int .i64 2) rfl
  have c1 := HX3.out.cell 1 (v := .int .i64 2) rfl
  have c2 := HX3.out.cell 2 (v := .int .i64 2) rfl
  have c3 := HX3.out.cell 3 (v := .int .i64 0) rfl
  have c4 := HX3.out.cell 4 (v := .int .i64 0) rfl
  have c5 := HX3.out.cell 5 (v := .int .i64 5) rfl
  have c6 := HX3.out.cell 6 (v := .slice (some ⟨b + 1, 0, none⟩) 4 4) rfl
  have c7 := HX3.out.cell 7 (v := .slice (some ⟨b + 2, 0, none⟩) 1 1) rfl
  have c8 := HX3.out.cell 8 (v := .slice (some ⟨b + 4, 0, none⟩) 10 10) rfl
  have c9 := HX3.out.cell 9 (v := .slice (some ⟨b + 3, 0, none⟩) 2 2) rfl
  go_wp2_with fail
  refine (run_calls exC (exS b) ⟨some ⟨w3.heap.size, 0, none⟩, 1, 1⟩ ⟨none, 0, 0⟩ [2] [] _ ((HA.out.1.next (HX3.out.low.trans ((below_new _).mono HX3.out.low.size))).at' rfl) (ints_at (heap_alloc_new _ _) rfl (show 1 ≤ 1000 by decide)) (IntsAt.nil _ _)).mono ?_
  rintro e w4 ⟨hb4, r, rfl, h1, _⟩
  obtain rfl := h1 (by rw [ref_ex2]; decide)
  rw [ref_ex2]
  have HL4 : Hid (Below w.heap.size w w4) := (HA.out.2.trans (HX3.out.low.mono HA.out.2.size)).trans (((below_new _).mono (by have h1 := HA.out.2.size; have h2 := HX3.out.low.size; omega)).trans (hb4.mono (by have h1 := HA.out.2.size; have h2 := HX3.out.low.size; simp; omega)))
  have HT4 : Hid (Tb w4 g gs 2 2 2 sa R.slots R.ends R.steps) := (HT.out.next (below_new _)).next hb4
  clear hb4 h1 HT HX3 HA
  clear c0 c1 c2 c3 c4 c5 c6 c7 c8 c9
  have HV1 : Hid ((atB 2 2 2 R.slots 1 2 2).num = 2 ∧ (atB 2 2 2 R.slots 1 2 2).has = true ∧ (atB 2 2 2 R.slots 1 2 2).mask = 2) := by show _ ∧ _; rw [← HF.out]; exact ex_at1
  have HV0 : Hid ((atB 2 2 2 R.slots 0 1 1).num = 0 ∧ (atB 2 2 2 R.slots 0 1 1).has = false) := by show _ ∧ _; rw [← HF.out]; exact ex_at0
  have HVe : Hid (R.ends.score = 2 ∧ R.ends.i = 2 ∧ R.ends.j = 2 ∧ R.ends.found = true ∧ risB R.ends = [1] ∧ R.steps = 30) := by show _ ∧ _; rw [← HF.out]; exact ex_end
  clear HF
  go_wp2_with fail
  refine (value_calls HT4.out 1 2 2).mono ?_
  rintro e w5 ⟨rfl, hb5⟩
  rw [HV1.out.1, HV1.out.2.1]
  have HL5 : Hid (Below w.heap.size w w5) := HL4.out.trans (hb5.mono HL4.out.size)
  have HT5 : Hid (Tb w5 g gs 2 2 2 sa R.slots R.ends R.steps) := HT4.out.next hb5
  clear hb5 HT4 HL4
  go_wp2_with fail
  refine (mask_calls HT5.out 1 2 2 (by rw [HV1.out.2.2]; decide)).mono ?_
  rintro e w6 ⟨rfl, hb6⟩
  rw [HV1.out.2.2]
  have HL6 : Hid (Below w.heap.size w w6) := HL5.out.trans (hb6.mono HL5.out.size)
  have HT6 : Hid (Tb w6 g gs 2 2 2 sa R.slots R.ends R.steps) := HT5.out.next hb6
  clear hb6 HT5 HL5
  go_wp2_with fail
  refine (value_calls HT6.out 0 1 1).mono ?_
  rintro e w7 ⟨rfl, hb7⟩
  rw [HV0.out.1, HV0.out.2]
  have HL7 : Hid (Below w.heap.size w w7) := HL6.out.trans (hb7.mono HL6.out.size)
  have HT7 : Hid (Tb w7 g gs 2 2 2 sa R.slots R.ends R.steps) := HT6.out.next hb7
  clear hb7 HT6 HL6
  go_wp2_with fail
  refine (best_calls HT7.out).mono ?_
  rintro e w8 ⟨ao, cap, rfl, ho, hb8⟩
  rw [HVe.out.2.2.2.2.1] at ho ⊢
  rw [HVe.out.1, HVe.out.2.1, HVe.out.2.2.1, HVe.out.2.2.2.1]
  have HL8 : Hid (Below w.heap.size w w8) := HL7.out.trans (hb8.mono HL7.out.size)
  have HT8 : Hid (Tb w8 g gs 2 2 2 sa R.slots R.ends R.steps) := HT7.out.next hb8
  obtain ⟨gu, cu, heq, _, _, _, hgl⟩ := owned_some ho (by decide)
  obtain ⟨rfl, rfl⟩ : ao = some ⟨gu, 0, none⟩ ∧ cap = cu := by injection heq with q1 q2 q3; exact ⟨q1, q3⟩
  have HO : Hid (w8.ownsRow w7.heap.size 3 1 (.slice (some ⟨gu, 0, none⟩) 1 cap) 1 (intVals [1])) := ho
  clear hb8 ho HT7 HL7 heq
  rw [show [(1 : Int)].length = 1 from rfl]
  go_wp2_with fail
  refine (steps_calls HT8.out).mono ?_
  rintro e w9 ⟨rfl, hb9⟩
  rw [HVe.out.2.2.2.2.2]
  have HL9 : Hid (Below w.heap.size w w9) := HL8.out.trans (hb9.mono HL8.out.size)
  have HO9 : Hid (w9.ownsRow w7.heap.size 3 1 (.slice (some ⟨gu, 0, none⟩) 1 cap) 1 (intVals [1])) := owned_below HO.out hb9
  clear hb9 HL8 HT8 HO
  have u0 := (owned_cells HO9.out 0 (.int .i64 1) rfl).1
  go_wp2
  go_ret
  exact ⟨rfl, HL9.out⟩
end Go.Proofs.Ytjpeoejielamiaa
