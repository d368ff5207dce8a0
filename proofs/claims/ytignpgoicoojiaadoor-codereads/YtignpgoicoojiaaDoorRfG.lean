/-
  The document's Decode, where the first number may be.
-/
import Derived.Test.YtignpgoicoojiaaDoorRfF
import Derived.Test.YtignpgoicoojiaaDoorRfE
import Derived.Test.YtignpgoicoojiaaDoorApp
import Derived.Test.YtignpgoicoojiaaDoorWrH
namespace Go.Proofs.YtignpgoicoojiaaDoor
open Go.RowKit
def rcC (L a1 a2 a3 a4 a5 : Int) (v6 v7 v8 v9 : Value) : Array Value := #[.int .i64 L, .int .i64 a1, .int .i64 a2, .int .i64 a3, .int .i64 a4, .int .i64 a5, v6, v7, v8, v9]
theorem four4 {l : List Int} (h : l.length = 4) : ∃ h0 h1 h2 h3, l = [h0, h1, h2, h3] := by
  match l, h with
  | [a, b, c, d], _ => exact ⟨a, b, c, d, rfl⟩
theorem qd_one (q : Qd) : ∀ u ∈ qdCells q, u.oneCell' = true := by
  intro v h
  simp [qdCells] at h
  rcases h with rfl | rfl | rfl | rfl <;> rfl
theorem cells_new4 (W : World) (cs : List Value) (t : TypeId) : ∀ j u, cs[j]? = some u → (W.alloc (.cells cs.toArray t)).cell? ((⟨W.heap.size, 0, none⟩ : Addr).add j) = some u := by
  intro j u hu
  rw [Addr.add_mid, Nat.zero_add]
  exact cell_block (heap_alloc_new W _) j u (by simpa using hu)
theorem ba_ext {a b : ByteArray} (h : a.data.toList = b.data.toList) : a = b := by
  obtain ⟨⟨x⟩⟩ := a
  obtain ⟨⟨y⟩⟩ := b
  simp at h
  rw [h]
theorem own_up {B : Nat} {W V : World} {e : TypeId} {size n : Nat} {v : Value} {xs : List Value} (h : W.ownsRow B e size v n xs) (hV : ∀ k, B ≤ k → k < W.heap.size → V.heap[k]? = W.heap[k]?) : V.ownsRow B e size v n xs :=
  owned_of_block h fun g _ hv hg => hV g (h.lt g hv).1 (lt_block hg)
/-- What the document's Decode tells. -/
def RdP (s : ByteArray) (w : World) (e : Ending) (w' : World) : Prop :=
  ∃ sl, e = .returned (.tuple #[.agg (cdCells (rdec s.data.toList).1 sl), .int .i64 (rdec s.data.toList).2]) ∧ (∀ V : World, (∀ k, w.heap.size ≤ k → k < w'.heap.size → V.heap[k]? = w'.heap[k]?) → CdAt V (rdec s.data.toList).1 sl) ∧ Below w.heap.size w w'

set_option maxRecDepth 10000 in
set_option maxHeartbeats 16000000 in
theorem refDecode_ok (s : ByteArray) (w : World) (hs : s.size ≤ maxLen) (hb : 2 ≤ (rhead s.data.toList).1.getD 0 0 ∧ (rhead s.data.toList).1.getD 0 0 ≤ 20) :
    Calls Tryd.prog 18 #[.string s] w (RdP s w) := by
  have hres : Tryd.f18.results = #[.cell 2 26, .tmp 3] := by kernel_rfl
  go_enter Tryd.func18, Tryd.ntmps18
  go_wp2_with fail
  have hrf : Rf ((w.alloc (.cells #[.int .i64 0, .int .i64 0, .int .i64 0, .int .i64 0, .int .i64 0, .int .i64 0, .slice none 0 0, .slice none 0 0, .slice none 0 0, .slice none 0 0] 26)).alloc (.cells #[.string s, .int .i64 4] 59)) (w.heap.size + 1) s 4 := by
    refine ⟨?_, by omega, hs⟩
    rw [show w.heap.size + 1 = (w.alloc (.cells #[.int .i64 0, .int .i64 0, .int .i64 0, .int .i64 0, .int .i64 0, .int .i64 0, .slice none 0 0, .slice none 0 0, .slice none 0 0, .slice none 0 0] 26)).heap.size by simp, heap_alloc_new]; rfl
  refine (refNums_calls (w.heap.size + 1) s 4 6 6 _ hrf (by omega) (by omega) (by omega)).mono ?_
  rintro e w1 ⟨v, rfl, hown, hr1, hg1⟩
  rw [show cntR 6 6 = 6 from rfl] at hown hr1
  obtain ⟨g, cap, rfl, hcap, hcm⟩ := own_some hown
  obtain ⟨a0, a1, a2, a3, a4, a5, hl⟩ := six (rnums_len s.data.toList 6 4)
  rw [rhead, hl] at hb
  rw [hl] at hown
  simp only [List.getD_cons_zero] at hb
  have k0 : w1.heap[w.heap.size]? = some (.cells #[.int .i64 0, .int .i64 0, .int .i64 0, .int .i64 0, .int .i64 0, .int .i64 0, .slice none 0 0, .slice none 0 0, .slice none 0 0, .slice none 0 0] 26 (0, 0)) := by
    rw [hg1.block _ (by simp; omega) (by simp), (below_new _).block _ (by simp), heap_alloc_new]
  have hb1 : Below w.heap.size w w1 := by
    have h2 : Below w.heap.size w ((w.alloc (.cells #[.int .i64 0, .int .i64 0, .int .i64 0, .int .i64 0, .int .i64 0, .int .i64 0, .slice none 0 0, .slice none 0 0, .slice none 0 0, .slice none 0 0] 26)).alloc (.cells #[.string s, .int .i64 4] 59)) := below_al2 (Nat.le_refl _) _ _
    exact ⟨hg1.os.trans h2.os, hg1.tape.trans h2.tape, hg1.output.trans h2.output, Nat.le_trans h2.size hg1.size, fun k hk => (hg1.block k (Nat.lt_of_lt_of_le hk h2.size) (by intro e; cases e; omega)).trans (h2.block k hk)⟩
  have HSix : Hid (Six g a0 a1 a2 a3 a4 a5 w1) := ⟨own_cells hown 0 rfl, own_cells hown 1 rfl, own_cells hown 2 rfl, own_cells hown 3 rfl, own_cells hown 4 rfl, own_cells hown 5 rfl⟩
  have HB : Hid (Below w.heap.size w w1) := hb1
  have HK0 : Hid (w1.heap[w.heap.size]? = some (.cells #[.int .i64 0, .int .i64 0, .int .i64 0, .int .i64 0, .int .i64 0, .int .i64 0, .slice none 0 0, .slice none 0 0, .slice none 0 0, .slice none 0 0] 26 (0, 0))) := k0
  have hlt : w.heap.size < w1.heap.size := lt_block k0
  have HR1 : Hid (Rf w1 (w.heap.size + 1) s (rhead s.data.toList).2) := hr1
  have HH : Hid ((rhead s.data.toList).1 = [a0, a1, a2, a3, a4, a5]) := hl
  clear hrf hown hr1 hg1 hl k0 hb1
  unfold maxLen at hcm
  go_wp2_with fail
  refine wp_region_Y (fun j => [20].contains j) (fun W : World => Six g a0 a1 a2 a3 a4 a5 W) (by kernel_rfl) ?_
  refine wpAnyY_pure (i := 0) 19 (v := .slice (some ⟨g, 0, none⟩) 6 cap) rfl rfl (by kernel_rfl) (by kernel_rfl) (by kernel_rfl) (fun _ _ _ h => h) (Or.inl ⟨by rfl, by (intro W _; go_simp)⟩) ?_
  simp only [Act.put, List.setIfInBounds_toArray, List.set_cons_succ, List.set_cons_zero]
  refine wpAnyY_pure (i := 1) 20 (v := .pointer (some ⟨g, 0, none⟩)) rfl rfl (by kernel_rfl) (by kernel_rfl) (by kernel_rfl) (fun _ _ _ h => h) (Or.inl ⟨by rfl, by (intro W _; go_simp)⟩) ?_
  simp only [Act.put, List.setIfInBounds_toArray, List.set_cons_succ, List.set_cons_zero]
  refine wpAnyY_takeD (i := 2) 21 (v := .int .i64 a0) rfl rfl (by kernel_rfl) (by kernel_rfl) (late_of (by kernel_rfl)) (by kernel_rfl) (by kernel_rfl) (fun _ _ _ h => h) (by first | exact HSix.out | (show Six _ _ _ _ _ _ _ _; exact HSix.out) | (simpa [Six, World.cell?] using HSix.out)) (Or.inl ⟨by rfl, by (intro W hW; obtain ⟨hc0, hc1, hc2, hc3, hc4, hc5⟩ := hW; go_simp)⟩) ?_
  simp only [Act.put, List.setIfInBounds_toArray, List.set_cons_succ, List.set_cons_zero]
  refine wpAnyY_pure (i := 3) 22 (v := .slice (some ⟨g, 0, none⟩) 6 cap) rfl rfl (by kernel_rfl) (by kernel_rfl) (by kernel_rfl) (fun _ _ _ h => h) (Or.inl ⟨by rfl, by (intro W _; go_simp)⟩) ?_
  simp only [Act.put, List.setIfInBounds_toArray, List.set_cons_succ, List.set_cons_zero]
  refine wpAnyY_pure (i := 4) 23 (v := .pointer (some ⟨g, 1, none⟩)) rfl rfl (by kernel_rfl) (by kernel_rfl) (by kernel_rfl) (fun _ _ _ h => h) (Or.inl ⟨by rfl, by (intro W _; go_simp)⟩) ?_
  simp only [Act.put, List.setIfInBounds_toArray, List.set_cons_succ, List.set_cons_zero]
  refine wpAnyY_takeD (i := 5) 24 (v := .int .i64 a1) rfl rfl (by kernel_rfl) (by kernel_rfl) (late_of (by kernel_rfl)) (by kernel_rfl) (by kernel_rfl) (fun _ _ _ h => h) (by first | exact HSix.out | (show Six _ _ _ _ _ _ _ _; exact HSix.out) | (simpa [Six, World.cell?] using HSix.out)) (Or.inl ⟨by rfl, by (intro W hW; obtain ⟨hc0, hc1, hc2, hc3, hc4, hc5⟩ := hW; go_simp)⟩) ?_
  simp only [Act.put, List.setIfInBounds_toArray, List.set_cons_succ, List.set_cons_zero]
  refine wpAnyY_pure (i := 6) 25 (v := .slice (some ⟨g, 0, none⟩) 6 cap) rfl rfl (by kernel_rfl) (by kernel_rfl) (by kernel_rfl) (fun _ _ _ h => h) (Or.inl ⟨by rfl, by (intro W _; go_simp)⟩) ?_
  simp only [Act.put, List.setIfInBounds_toArray, List.set_cons_succ, List.set_cons_zero]
  refine wpAnyY_pure (i := 7) 26 (v := .pointer (some ⟨g, 2, none⟩)) rfl rfl (by kernel_rfl) (by kernel_rfl) (by kernel_rfl) (fun _ _ _ h => h) (Or.inl ⟨by rfl, by (intro W _; go_simp)⟩) ?_
  simp only [Act.put, List.setIfInBounds_toArray, List.set_cons_succ, List.set_cons_zero]
  refine wpAnyY_takeD (i := 8) 27 (v := .int .i64 a2) rfl rfl (by kernel_rfl) (by kernel_rfl) (late_of (by kernel_rfl)) (by kernel_rfl) (by kernel_rfl) (fun _ _ _ h => h) (by first | exact HSix.out | (show Six _ _ _ _ _ _ _ _; exact HSix.out) | (simpa [Six, World.cell?] using HSix.out)) (Or.inl ⟨by rfl, by (intro W hW; obtain ⟨hc0, hc1, hc2, hc3, hc4, hc5⟩ := hW; go_simp)⟩) ?_
  simp only [Act.put, List.setIfInBounds_toArray, List.set_cons_succ, List.set_cons_zero]
  refine wpAnyY_pure (i := 9) 28 (v := .slice (some ⟨g, 0, none⟩) 6 cap) rfl rfl (by kernel_rfl) (by kernel_rfl) (by kernel_rfl) (fun _ _ _ h => h) (Or.inl ⟨by rfl, by (intro W _; go_simp)⟩) ?_
  simp only [Act.put, List.setIfInBounds_toArray, List.set_cons_succ, List.set_cons_zero]
  refine wpAnyY_pure (i := 10) 29 (v := .pointer (some ⟨g, 3, none⟩)) rfl rfl (by kernel_rfl) (by kernel_rfl) (by kernel_rfl) (fun _ _ _ h => h) (Or.inl ⟨by rfl, by (intro W _; go_simp)⟩) ?_
  simp only [Act.put, List.setIfInBounds_toArray, List.set_cons_succ, List.set_cons_zero]
  refine wpAnyY_takeD (i := 11) 30 (v := .int .i64 a3) rfl rfl (by kernel_rfl) (by kernel_rfl) (late_of (by kernel_rfl)) (by kernel_rfl) (by kernel_rfl) (fun _ _ _ h => h) (by first | exact HSix.out | (show Six _ _ _ _ _ _ _ _; exact HSix.out) | (simpa [Six, World.cell?] using HSix.out)) (Or.inl ⟨by rfl, by (intro W hW; obtain ⟨hc0, hc1, hc2, hc3, hc4, hc5⟩ := hW; go_simp)⟩) ?_
  simp only [Act.put, List.setIfInBounds_toArray, List.set_cons_succ, List.set_cons_zero]
  refine wpAnyY_pure (i := 12) 31 (v := .slice (some ⟨g, 0, none⟩) 6 cap) rfl rfl (by kernel_rfl) (by kernel_rfl) (by kernel_rfl) (fun _ _ _ h => h) (Or.inl ⟨by rfl, by (intro W _; go_simp)⟩) ?_
  simp only [Act.put, List.setIfInBounds_toArray, List.set_cons_succ, List.set_cons_zero]
  refine wpAnyY_pure (i := 13) 32 (v := .pointer (some ⟨g, 4, none⟩)) rfl rfl (by kernel_rfl) (by kernel_rfl) (by kernel_rfl) (fun _ _ _ h => h) (Or.inl ⟨by rfl, by (intro W _; go_simp)⟩) ?_
  simp only [Act.put, List.setIfInBounds_toArray, List.set_cons_succ, List.set_cons_zero]
  refine wpAnyY_takeD (i := 14) 33 (v := .int .i64 a4) rfl rfl (by kernel_rfl) (by kernel_rfl) (late_of (by kernel_rfl)) (by kernel_rfl) (by kernel_rfl) (fun _ _ _ h => h) (by first | exact HSix.out | (show Six _ _ _ _ _ _ _ _; exact HSix.out) | (simpa [Six, World.cell?] using HSix.out)) (Or.inl ⟨by rfl, by (intro W hW; obtain ⟨hc0, hc1, hc2, hc3, hc4, hc5⟩ := hW; go_simp)⟩) ?_
  simp only [Act.put, List.setIfInBounds_toArray, List.set_cons_succ, List.set_cons_zero]
  refine wpAnyY_pure (i := 15) 34 (v := .slice (some ⟨g, 0, none⟩) 6 cap) rfl rfl (by kernel_rfl) (by kernel_rfl) (by kernel_rfl) (fun _ _ _ h => h) (Or.inl ⟨by rfl, by (intro W _; go_simp)⟩) ?_
  simp only [Act.put, List.setIfInBounds_toArray, List.set_cons_succ, List.set_cons_zero]
  refine wpAnyY_pure (i := 16) 35 (v := .pointer (some ⟨g, 5, none⟩)) rfl rfl (by kernel_rfl) (by kernel_rfl) (by kernel_rfl) (fun _ _ _ h => h) (Or.inl ⟨by rfl, by (intro W _; go_simp)⟩) ?_
  simp only [Act.put, List.setIfInBounds_toArray, List.set_cons_succ, List.set_cons_zero]
  refine wpAnyY_takeD (i := 17) 36 (v := .int .i64 a5) rfl rfl (by kernel_rfl) (by kernel_rfl) (late_of (by kernel_rfl)) (by kernel_rfl) (by kernel_rfl) (fun _ _ _ h => h) (by first | exact HSix.out | (show Six _ _ _ _ _ _ _ _; exact HSix.out) | (simpa [Six, World.cell?] using HSix.out)) (Or.inl ⟨by rfl, by (intro W hW; obtain ⟨hc0, hc1, hc2, hc3, hc4, hc5⟩ := hW; go_simp)⟩) ?_
  simp only [Act.put, List.setIfInBounds_toArray, List.set_cons_succ, List.set_cons_zero]
  refine wpAnyY_pure (i := 18) 37 (v := .agg #[.int .i64 a0, .int .i64 a1, .int .i64 a2, .int .i64 a3, .int .i64 a4, .int .i64 a5, .slice none 0 0, .slice none 0 0, .slice none 0 0, .slice none 0 0]) rfl rfl (by kernel_rfl) (by kernel_rfl) (by kernel_rfl) (fun _ _ _ h => h) (Or.inl ⟨by rfl, by (intro W _; go_simp)⟩) ?_
  simp only [Act.put, List.setIfInBounds_toArray, List.set_cons_succ, List.set_cons_zero]
  refine wpAnyY_one (i := 19) rfl (by kernel_rfl) (fun Kc hKc => ?_)
  go_simp
  refine hKc.out _ _ (fun _ h => Six.alloc h _) ?_
  clear hKc Kc
  refine wpAnyY_one (i := 20) rfl (by kernel_rfl) (fun Kc hKc => ?_)
  go_simp
  refine hKc.out _ _ (fun h => absurd h (by decide)) ?_
  clear hKc Kc
  refine wpAnyY_done (by kernel_rfl) ?_ _
  have HD : Hid (Dg w (w.heap.size + 1) w1.heap.size s (rhead s.data.toList).2 #[.int .i64 a0, .int .i64 a1, .int .i64 a2, .int .i64 a3, .int .i64 a4, .int .i64 a5, .slice none 0 0, .slice none 0 0, .slice none 0 0, .slice none 0 0] (w1.alloc (.cells #[.int .i64 a0, .int .i64 a1, .int .i64 a2, .int .i64 a3, .int .i64 a4, .int .i64 a5, .slice none 0 0, .slice none 0 0, .slice none 0 0, .slice none 0 0] 26)).drew) := by
    have h2 : (w1.alloc (.cells #[.int .i64 a0, .int .i64 a1, .int .i64 a2, .int .i64 a3, .int .i64 a4, .int .i64 a5, .slice none 0 0, .slice none 0 0, .slice none 0 0, .slice none 0 0] 26)).grownBy (w1.alloc (.cells #[.int .i64 a0, .int .i64 a1, .int .i64 a2, .int .i64 a3, .int .i64 a4, .int .i64 a5, .slice none 0 0, .slice none 0 0, .slice none 0 0, .slice none 0 0] 26)).drew none := ⟨by first | rfl | simp, by first | rfl | simp, by first | rfl | simp, Nat.le_of_eq (by first | rfl | simp), fun _ _ _ => by first | rfl | simp⟩
    have h3 : Dg w (w.heap.size + 1) w1.heap.size s (rhead s.data.toList).2 #[.int .i64 a0, .int .i64 a1, .int .i64 a2, .int .i64 a3, .int .i64 a4, .int .i64 a5, .slice none 0 0, .slice none 0 0, .slice none 0 0, .slice none 0 0] (w1.alloc (.cells #[.int .i64 a0, .int .i64 a1, .int .i64 a2, .int .i64 a3, .int .i64 a4, .int .i64 a5, .slice none 0 0, .slice none 0 0, .slice none 0 0, .slice none 0 0] 26)) := ⟨below_alS HB.out _, HR1.out.other (grown_alloc' (grown_refl w1 none) _) (by simp), by rw [heap_alloc_new], by rw [(below_new _).block _ hlt]; exact HK0.out, by omega, hlt⟩
    exact h3.new h2
  generalize (w1.alloc (.cells #[.int .i64 a0, .int .i64 a1, .int .i64 a2, .int .i64 a3, .int .i64 a4, .int .i64 a5, .slice none 0 0, .slice none 0 0, .slice none 0 0, .slice none 0 0] 26)).drew = wd at HD ⊢
  clear HB HK0 HSix HR1
  obtain ⟨gc, hgc⟩ : ∃ gc, w1.heap.size = gc := ⟨_, rfl⟩
  rw [hgc] at HD hlt ⊢
  have d0 : wd.cell? ⟨gc, 0, none⟩ = some (.int .i64 a0) := HD.out.cell 0 rfl
  have hd1 : decide (a0 < 2) = false := by simp; omega
  have hd2 : decide (20 < a0) = false := by simp; omega
  obtain ⟨L, rfl⟩ : ∃ L : Nat, a0 = (L : Int) := ⟨a0.toNat, by omega⟩
  have hL2 : L * L ≤ 400 := Nat.mul_le_mul (show L ≤ 20 by omega) (show L ≤ 20 by omega)
  obtain ⟨M, hM⟩ : ∃ M : Nat, L * L = M := ⟨_, rfl⟩
  rw [hM] at hL2
  have hL : (L : Int) * (L : Int) = (M : Int) := by rw [← hM]; simp
  have HT : Hid (rtab s.data.toList = rnums s.data.toList M (rhead s.data.toList).2) := by
    show _ = _
    rw [rtab, HH.out]
    show rnums _ (cntR ((L : Int) * (L : Int)) 400) _ = _
    rw [hL, cntR_of hL2]
  have hp1 := rnums_le s.data.toList 6 4
  clear hM
  go_wp2_with fail
  refine (refNums_calls _ s _ (M : Int) 400 _ HD.out.rd (by omega) (by rw [rhead]; omega) (by omega)).mono ?_
  rintro e w2 ⟨v1, rfl, hown, hr2, hg2⟩
  rw [cntR_of hL2, ← HT.out] at hown hr2
  obtain ⟨p1, c1, rfl⟩ := owned_shape hown
  have HD2 : Hid (Dg w (w.heap.size + 1) gc s (rtab s.data.toList).2 _ w2) := HD.out.call hr2 hg2
  have HT2 : Hid (w2.ownsRow w.heap.size 3 1 (.slice p1 M c1) M (intVals (rtab s.data.toList).1)) := owned_mono hown HD.out.low.size
  have d6 := HD2.out.cell 6 rfl
  have f6 := HD2.out.fz 6
  clear hown hr2 hg2 HD d0
  have HD3 : Hid (Dg w (w.heap.size + 1) gc s (rtab s.data.toList).2 _ (w2.setCell ⟨gc, 6, none⟩ (.slice p1 M c1)) ∧ (w2.setCell ⟨gc, 6, none⟩ (.slice p1 M c1)).ownsRow w.heap.size 3 1 (.slice p1 M c1) M (intVals (rtab s.data.toList).1)) := ⟨HD2.out.put 6 _, HD2.out.own HT2.out (by decide) 6 _⟩
  have hp2 : (rtab s.data.toList).2 ≤ 10000 := by rw [HT.out]; have := rnums_le s.data.toList M (rhead s.data.toList).2; rw [rhead] at this ⊢; omega
  go_wp2_with fail
  generalize w2.setCell ⟨gc, 6, none⟩ (.slice p1 M c1) = w3 at HD3 ⊢
  clear HD2 HT2 d6 f6
  refine (refNum_calls _ s _ _ HD3.out.1.rd (by omega)).mono ?_
  rintro e w4 ⟨rfl, hr4, hg4⟩
  have HD4 : Hid (Dg w (w.heap.size + 1) gc s (rnum s.data.toList (rtab s.data.toList).2).2 _ w4 ∧ w4.ownsRow w.heap.size 3 1 (.slice p1 M c1) M (intVals (rtab s.data.toList).1)) := ⟨HD3.out.1.call hr4 hg4, own_rf HD3.out.2 (by decide) HD3.out.1.rd hg4⟩
  have hp3 := rnum_le s.data.toList (rtab s.data.toList).2
  have hz3 := rnum_bd s.data.toList (rtab s.data.toList).2
  have HK : Hid (rks s.data.toList = rnums s.data.toList (cntR (rnum s.data.toList (rtab s.data.toList).2).1 100) (rnum s.data.toList (rtab s.data.toList).2).2) := rfl
  clear hr4 hg4 HD3
  generalize rnum s.data.toList (rtab s.data.toList).2 = nk at HD4 HK hz3 hp3 ⊢
  obtain ⟨nk, ik⟩ := nk
  simp only at HD4 HK hz3 hp3
  go_wp2_with fail
  refine (refNums_calls _ s _ nk 100 _ HD4.out.1.rd (by omega) (by omega) (by omega)).mono ?_
  rintro e w5 ⟨v2, rfl, hown, hr5, hg5⟩
  have hkc := cntR_le nk 100
  have hp4 := rnums_le s.data.toList (cntR nk 100) ik
  rw [← HK.out] at hown hr5 hp4
  obtain ⟨p2, c2, rfl⟩ := owned_shape hown
  have HD5 : Hid (Dg w (w.heap.size + 1) gc s (rks s.data.toList).2 _ w5 ∧ w5.ownsRow w.heap.size 3 1 (.slice p1 M c1) M (intVals (rtab s.data.toList).1) ∧ w5.ownsRow w.heap.size 3 1 (.slice p2 (cntR nk 100) c2) (cntR nk 100) (intVals (rks s.data.toList).1)) := ⟨HD4.out.1.call hr5 hg5, own_rf HD4.out.2 (by decide) HD4.out.1.rd hg5, owned_mono hown HD4.out.1.low.size⟩
  have d7 := HD5.out.1.cell 7 rfl
  have f7 := HD5.out.1.fz 7
  clear hown hr5 hg5 HD4
  generalize cntR nk 100 = K at HD5 HK hkc hp4 ⊢
  have HD6 : Hid (Dg w (w.heap.size + 1) gc s (rks s.data.toList).2 _ (w5.setCell ⟨gc, 7, none⟩ (.slice p2 K c2)) ∧ (w5.setCell ⟨gc, 7, none⟩ (.slice p2 K c2)).ownsRow w.heap.size 3 1 (.slice p1 M c1) M (intVals (rtab s.data.toList).1) ∧ (w5.setCell ⟨gc, 7, none⟩ (.slice p2 K c2)).ownsRow w.heap.size 3 1 (.slice p2 K c2) K (intVals (rks s.data.toList).1)) := ⟨HD5.out.1.put 7 _, HD5.out.1.own HD5.out.2.1 (by decide) 7 _, HD5.out.1.own HD5.out.2.2 (by decide) 7 _⟩
  go_wp2_with fail
  generalize w5.setCell ⟨gc, 7, none⟩ (.slice p2 K c2) = w6 at HD6 ⊢
  clear HD5 d7 f7
  refine (refNum_calls _ s _ _ HD6.out.1.rd (by omega)).mono ?_
  rintro e w7 ⟨rfl, hr7, hg7⟩
  have HD7 : Hid (Dg w (w.heap.size + 1) gc s (rnum s.data.toList (rks s.data.toList).2).2 _ w7 ∧ w7.ownsRow w.heap.size 3 1 (.slice p1 M c1) M (intVals (rtab s.data.toList).1) ∧ w7.ownsRow w.heap.size 3 1 (.slice p2 K c2) K (intVals (rks s.data.toList).1)) := ⟨HD6.out.1.call hr7 hg7, own_rf HD6.out.2.1 (by decide) HD6.out.1.rd hg7, own_rf HD6.out.2.2 (by decide) HD6.out.1.rd hg7⟩
  have hp5 := rnum_le s.data.toList (rks s.data.toList).2
  have hz5 := rnum_bd s.data.toList (rks s.data.toList).2
  have HC : Hid (rcs s.data.toList = rqs s.data.toList (cntR (rnum s.data.toList (rks s.data.toList).2).1 1000) (rnum s.data.toList (rks s.data.toList).2).2) := rfl
  clear hr7 hg7 HD6
  generalize rnum s.data.toList (rks s.data.toList).2 = nc at HD7 HC hz5 hp5 ⊢
  obtain ⟨nc, ic⟩ := nc
  simp only at HD7 HC hz5 hp5
  obtain ⟨n, hn⟩ : ∃ n, cntR nc 1000 = n := ⟨_, rfl⟩
  have hn0 : (nc ≤ 1000 ∧ ((0 ≤ nc ∧ nc = (n : Int)) ∨ (nc < 0 ∧ n = 0))) ∨ (1000 < nc ∧ n = 0) := by
    unfold cntR at hn; split at hn <;> omega
  rw [hn] at HC
  have hn1000 : n ≤ 1000 := by omega
  have hic : ic ≤ 20000 := by omega
  clear hn
  obtain ⟨i38, hi38, hz38, hs38, hb38⟩ := info_parts info38
  have HI38 : Hid (Tryd.prog.info? 38 = some i38 ∧ i38.zero = some (.agg #[.int .i64 0, .int .i64 0, .int .i64 0, .int .i64 0]) ∧ i38.size = 4 ∧ i38.bytes = 32) := ⟨hi38, hz38, hs38, hb38⟩
  obtain ⟨i40, hi40, hz40, hs40, hb40⟩ := info_parts info40
  have HI40 : Hid (Tryd.prog.info? 40 = some i40 ∧ i40.zero = some (.agg #[.int .i64 0, .int .i64 0, .int .i64 0, .int .i64 0]) ∧ i40.size = 4 ∧ i40.bytes = 32) := ⟨hi40, hz40, hs40, hb40⟩
  clear hi38 hz38 hs38 hb38 hi40 hz40 hs40 hb40
  have H0 : Hid (Dg w (w.heap.size + 1) gc s (rqs s.data.toList 0 ic).2 (rcC (L : Int) a1 a2 a3 a4 a5 (.slice p1 M c1) (.slice p2 K c2) (.slice none 0 0) (.slice none 0 0)) w7 ∧ w7.ownsRow w.heap.size 3 1 (.slice p1 M c1) M (intVals (rtab s.data.toList).1) ∧ w7.ownsRow w.heap.size 3 1 (.slice p2 K c2) K (intVals (rks s.data.toList).1) ∧ w7.ownsRow w.heap.size 38 4 (.slice none 0 0) 0 (qdVals (rqs s.data.toList 0 ic).1)) := ⟨HD7.out.1, HD7.out.2.1, HD7.out.2.2, ⟨rfl, .inl ⟨rfl, rfl⟩⟩⟩
  clear HD7
  go_wp2
  go_loopg [8, 9] n (fun q v8 _ wr => ∃ (j : Nat) (p : Option Addr) (cp : Nat), j + q = n ∧ v8 = .int .i64 (j : Int) ∧ Hid (Dg w (w.heap.size + 1) gc s ((rqs s.data.toList j ic).2) (rcC (L : Int) a1 a2 a3 a4 a5 (.slice p1 M c1) (.slice p2 K c2) (.slice p j cp) (.slice none 0 0)) wr ∧ wr.ownsRow w.heap.size 3 1 (.slice p1 M c1) M (intVals (rtab s.data.toList).1) ∧ wr.ownsRow w.heap.size 3 1 (.slice p2 K c2) K (intVals (rks s.data.toList).1) ∧ wr.ownsRow w.heap.size 38 4 (.slice p j cp) j (qdVals ((rqs s.data.toList j ic).1))))
  case atStart => exact ⟨0, none, 0, by omega, rfl, H0⟩
  case round =>
    clear H0
    obtain ⟨j, p, cp, hjn, rfl, HO⟩ := hrel
    by_cases hj : j < n
    · have hgk : 0 < gk := by omega
      have hcn : nc = (n : Int) := by omega
      have d1 : decide ((j : Int) < nc) = true := decide_eq_true (by omega)
      have d2 : decide (nc ≤ 1000) = true := decide_eq_true (by omega)
      clear hcn
      have hrl := rqs_le s.data.toList j ic
      have HSu : Hid (rqs s.data.toList (j + 1) ic = _) := rqs_succ s.data.toList j ic
      generalize rqs s.data.toList j ic = rj at HO HSu hrl
      obtain ⟨lj, sj⟩ := rj
      simp only at HO HSu hrl
      go_wp2_with fail
      refine (refNums_calls _ s _ 4 4 _ HO.out.1.rd (by omega) (by omega) (by omega)).mono ?_
      rintro e w2 ⟨v, rfl, hown, hr2, hg2⟩
      rw [show cntR 4 4 = 4 from rfl] at hown hr2
      obtain ⟨g, cap, rfl, hcap, hcm⟩ := own_some hown
      obtain ⟨k0, k1, k2, k3, hl⟩ := four4 (rnums_len s.data.toList 4 sj)
      have HS2 : Hid (rqs s.data.toList (j + 1) ic = (lj ++ [(k0, k1, k2, k3)], (rnums s.data.toList 4 sj).2)) := by
        show _ = _
        rw [HSu.out, hl]; rfl
      rw [hl] at hown
      generalize (rnums s.data.toList 4 sj).2 = sn at hr2 HS2
      have HO2 : Hid (Dg w (w.heap.size + 1) gc s (sn) (rcC (L : Int) a1 a2 a3 a4 a5 (.slice p1 M c1) (.slice p2 K c2) (.slice p j cp) (.slice none 0 0)) w2 ∧ w2.ownsRow w.heap.size 3 1 (.slice p1 M c1) M (intVals (rtab s.data.toList).1) ∧ w2.ownsRow w.heap.size 3 1 (.slice p2 K c2) K (intVals (rks s.data.toList).1) ∧ w2.ownsRow w.heap.size 38 4 (.slice p j cp) j (qdVals (lj))) := by
        obtain ⟨h1, h2, h3, h4⟩ := HO.out
        exact ⟨h1.call hr2 hg2, own_rf h2 (by decide) h1.rd hg2, own_rf h3 (by decide) h1.rd hg2, own_rf h4 (by decide) h1.rd hg2⟩
      have HK4 : Hid (w2.cell? ⟨g, 0, none⟩ = some (.int .i64 k0) ∧ w2.cell? ⟨g, 1, none⟩ = some (.int .i64 k1) ∧ w2.cell? ⟨g, 2, none⟩ = some (.int .i64 k2) ∧ w2.cell? ⟨g, 3, none⟩ = some (.int .i64 k3)) := ⟨own_cells hown 0 rfl, own_cells hown 1 rfl, own_cells hown 2 rfl, own_cells hown 3 rfl⟩
      clear hown hr2 hg2 HO HSu hl
      go_upto_region 14 with (fail)
      have HD3 : Hid (Dg w (w.heap.size + 1) gc s (sn) (rcC (L : Int) a1 a2 a3 a4 a5 (.slice p1 M c1) (.slice p2 K c2) (.slice p j cp) (.slice none 0 0)) w2.drew ∧ w2.drew.ownsRow w.heap.size 3 1 (.slice p1 M c1) M (intVals (rtab s.data.toList).1) ∧ w2.drew.ownsRow w.heap.size 3 1 (.slice p2 K c2) K (intVals (rks s.data.toList).1) ∧ w2.drew.ownsRow w.heap.size 38 4 (.slice p j cp) j (qdVals (lj))) := by
        obtain ⟨h1, h2, h3, h4⟩ := HO2.out
        exact ⟨h1.drewN 1, owned_below h2 (Below.refl _ _).drew, owned_below h3 (Below.refl _ _).drew, owned_below h4 (Below.refl _ _).drew⟩
      have HS : Hid ((fun W : World => W.cell? ⟨gc, 8, none⟩ = some (.slice p j cp) ∧ W.cell? ⟨g, 0, none⟩ = some (.int .i64 k0) ∧ W.cell? ⟨g, 1, none⟩ = some (.int .i64 k1) ∧ W.cell? ⟨g, 2, none⟩ = some (.int .i64 k2) ∧ W.cell? ⟨g, 3, none⟩ = some (.int .i64 k3)) w2.drew) := ⟨HD3.out.1.cell 8 rfl, HK4.out.1, HK4.out.2.1, HK4.out.2.2.1, HK4.out.2.2.2⟩
      clear HO2 HK4
      refine wp_region_Y (fun j => [16, 18].contains j) (fun W : World => W.cell? ⟨gc, 8, none⟩ = some (.slice p j cp) ∧ W.cell? ⟨g, 0, none⟩ = some (.int .i64 k0) ∧ W.cell? ⟨g, 1, none⟩ = some (.int .i64 k1) ∧ W.cell? ⟨g, 2, none⟩ = some (.int .i64 k2) ∧ W.cell? ⟨g, 3, none⟩ = some (.int .i64 k3)) (by kernel_rfl) ?_
      refine wpAnyY_pure (i := 0) 74 (v := .pointer (some ⟨gc, 8, none⟩)) rfl rfl (by kernel_rfl) (by kernel_rfl) (by kernel_rfl) (fun _ _ _ h => h) (Or.inl ⟨by rfl, by (intro W _; go_simp)⟩) ?_
      simp only [Act.put, List.setIfInBounds_toArray, List.set_cons_succ, List.set_cons_zero]
      refine wpAnyY_takeD (i := 1) 75 (v := .slice p j cp) rfl rfl (by kernel_rfl) (by kernel_rfl) (late_of (by kernel_rfl)) (by kernel_rfl) (by kernel_rfl) (fun _ _ _ h => h) HS.out (Or.inl ⟨by rfl, by (intro W hW; obtain ⟨e8, e0, e1, e2, e3⟩ := hW; go_simp)⟩) ?_
      simp only [Act.put, List.setIfInBounds_toArray, List.set_cons_succ, List.set_cons_zero]
      refine wpAnyY_pure (i := 2) 76 (v := .slice (some ⟨g, 0, none⟩) 4 cap) rfl rfl (by kernel_rfl) (by kernel_rfl) (by kernel_rfl) (fun _ _ _ h => h) (Or.inl ⟨by rfl, by (intro W _; go_simp)⟩) ?_
      simp only [Act.put, List.setIfInBounds_toArray, List.set_cons_succ, List.set_cons_zero]
      refine wpAnyY_pure (i := 3) 77 (v := .pointer (some ⟨g, 0, none⟩)) rfl rfl (by kernel_rfl) (by kernel_rfl) (by kernel_rfl) (fun _ _ _ h => h) (Or.inl ⟨by rfl, by (intro W _; go_simp)⟩) ?_
      simp only [Act.put, List.setIfInBounds_toArray, List.set_cons_succ, List.set_cons_zero]
      refine wpAnyY_takeD (i := 4) 78 (v := .int .i64 k0) rfl rfl (by kernel_rfl) (by kernel_rfl) (late_of (by kernel_rfl)) (by kernel_rfl) (by kernel_rfl) (fun _ _ _ h => h) HS.out (Or.inl ⟨by rfl, by (intro W hW; obtain ⟨e8, e0, e1, e2, e3⟩ := hW; go_simp)⟩) ?_
      simp only [Act.put, List.setIfInBounds_toArray, List.set_cons_succ, List.set_cons_zero]
      refine wpAnyY_pure (i := 5) 79 (v := .slice (some ⟨g, 0, none⟩) 4 cap) rfl rfl (by kernel_rfl) (by kernel_rfl) (by kernel_rfl) (fun _ _ _ h => h) (Or.inl ⟨by rfl, by (intro W _; go_simp)⟩) ?_
      simp only [Act.put, List.setIfInBounds_toArray, List.set_cons_succ, List.set_cons_zero]
      refine wpAnyY_pure (i := 6) 80 (v := .pointer (some ⟨g, 1, none⟩)) rfl rfl (by kernel_rfl) (by kernel_rfl) (by kernel_rfl) (fun _ _ _ h => h) (Or.inl ⟨by rfl, by (intro W _; go_simp)⟩) ?_
      simp only [Act.put, List.setIfInBounds_toArray, List.set_cons_succ, List.set_cons_zero]
      refine wpAnyY_takeD (i := 7) 81 (v := .int .i64 k1) rfl rfl (by kernel_rfl) (by kernel_rfl) (late_of (by kernel_rfl)) (by kernel_rfl) (by kernel_rfl) (fun _ _ _ h => h) HS.out (Or.inl ⟨by rfl, by (intro W hW; obtain ⟨e8, e0, e1, e2, e3⟩ := hW; go_simp)⟩) ?_
      simp only [Act.put, List.setIfInBounds_toArray, List.set_cons_succ, List.set_cons_zero]
      refine wpAnyY_pure (i := 8) 82 (v := .slice (some ⟨g, 0, none⟩) 4 cap) rfl rfl (by kernel_rfl) (by kernel_rfl) (by kernel_rfl) (fun _ _ _ h => h) (Or.inl ⟨by rfl, by (intro W _; go_simp)⟩) ?_
      simp only [Act.put, List.setIfInBounds_toArray, List.set_cons_succ, List.set_cons_zero]
      refine wpAnyY_pure (i := 9) 83 (v := .pointer (some ⟨g, 2, none⟩)) rfl rfl (by kernel_rfl) (by kernel_rfl) (by kernel_rfl) (fun _ _ _ h => h) (Or.inl ⟨by rfl, by (intro W _; go_simp)⟩) ?_
      simp only [Act.put, List.setIfInBounds_toArray, List.set_cons_succ, List.set_cons_zero]
      refine wpAnyY_takeD (i := 10) 84 (v := .int .i64 k2) rfl rfl (by kernel_rfl) (by kernel_rfl) (late_of (by kernel_rfl)) (by kernel_rfl) (by kernel_rfl) (fun _ _ _ h => h) HS.out (Or.inl ⟨by rfl, by (intro W hW; obtain ⟨e8, e0, e1, e2, e3⟩ := hW; go_simp)⟩) ?_
      simp only [Act.put, List.setIfInBounds_toArray, List.set_cons_succ, List.set_cons_zero]
      refine wpAnyY_pure (i := 11) 85 (v := .slice (some ⟨g, 0, none⟩) 4 cap) rfl rfl (by kernel_rfl) (by kernel_rfl) (by kernel_rfl) (fun _ _ _ h => h) (Or.inl ⟨by rfl, by (intro W _; go_simp)⟩) ?_
      simp only [Act.put, List.setIfInBounds_toArray, List.set_cons_succ, List.set_cons_zero]
      refine wpAnyY_pure (i := 12) 86 (v := .pointer (some ⟨g, 3, none⟩)) rfl rfl (by kernel_rfl) (by kernel_rfl) (by kernel_rfl) (fun _ _ _ h => h) (Or.inl ⟨by rfl, by (intro W _; go_simp)⟩) ?_
      simp only [Act.put, List.setIfInBounds_toArray, List.set_cons_succ, List.set_cons_zero]
      refine wpAnyY_takeD (i := 13) 87 (v := .int .i64 k3) rfl rfl (by kernel_rfl) (by kernel_rfl) (late_of (by kernel_rfl)) (by kernel_rfl) (by kernel_rfl) (fun _ _ _ h => h) HS.out (Or.inl ⟨by rfl, by (intro W hW; obtain ⟨e8, e0, e1, e2, e3⟩ := hW; go_simp)⟩) ?_
      simp only [Act.put, List.setIfInBounds_toArray, List.set_cons_succ, List.set_cons_zero]
      refine wpAnyY_pure (i := 14) 88 (v := .agg #[.int .i64 k0, .int .i64 k1, .int .i64 k2, .int .i64 k3]) rfl rfl (by kernel_rfl) (by kernel_rfl) (by kernel_rfl) (fun _ _ _ h => h) (Or.inl ⟨by rfl, by (intro W _; go_simp)⟩) ?_
      simp only [Act.put, List.setIfInBounds_toArray, List.set_cons_succ, List.set_cons_zero]
      refine wpAnyY_one (i := 15) rfl (by kernel_rfl) (fun Kc hKc => ?_)
      go_simp
      refine hKc.out _ _ (fun _ h => ⟨cell_low h.1 _, cell_low h.2.1 _, cell_low h.2.2.1 _, cell_low h.2.2.2.1 _, cell_low h.2.2.2.2 _⟩) ?_
      clear hKc Kc
      have HD4 : Hid (Dg w (w.heap.size + 1) gc s (sn) (rcC (L : Int) a1 a2 a3 a4 a5 (.slice p1 M c1) (.slice p2 K c2) (.slice p j cp) (.slice none 0 0)) (w2.drew.alloc (.cells (qdCells (k0, k1, k2, k3)).toArray 38)) ∧ (w2.drew.alloc (.cells (qdCells (k0, k1, k2, k3)).toArray 38)).ownsRow w.heap.size 3 1 (.slice p1 M c1) M (intVals (rtab s.data.toList).1) ∧ (w2.drew.alloc (.cells (qdCells (k0, k1, k2, k3)).toArray 38)).ownsRow w.heap.size 3 1 (.slice p2 K c2) K (intVals (rks s.data.toList).1) ∧ (w2.drew.alloc (.cells (qdCells (k0, k1, k2, k3)).toArray 38)).ownsRow w.heap.size 38 4 (.slice p j cp) j (qdVals (lj))) := by
        obtain ⟨h1, h2, h3, h4⟩ := HD3.out
        exact ⟨h1.alloc _, owned_below h2 (below_new _), owned_below h3 (below_new _), owned_below h4 (below_new _)⟩
      refine wpAnyY_one (i := 16) rfl (by kernel_rfl) (fun Kc hKc => ?_)
      refine step_append_fresh rfl (.tmp 75) (.tmp 89) 23 rfl w.heap.size 38 i38 _ 4 32 Tryd.underlying23 HI38.out.1 HI38.out.2.1 HI38.out.2.2.1 HI38.out.2.2.2 rfl (by decide) (.slice p j cp) _ _ (by simp [Act.eval]) HD4.out.2.2.2 ⟨w2.heap.size, 0, none⟩ 1 1 (qdCells (k0, k1, k2, k3)) (by simp [Act.eval]) rfl (cells_new4 w2.drew _ 38) (qd_one _) (by unfold maxLen; omega) (by omega) HD4.out.1.low.size ?_
      intro v wa o1 o2 o3
      refine hKc.out _ _ (fun h => absurd h (by decide)) ?_
      clear hKc Kc
      obtain ⟨vo, vc, hv⟩ := owned_shape o1
      subst hv
      have HD5 : Hid (Dg w (w.heap.size + 1) gc s sn (rcC (L : Int) a1 a2 a3 a4 a5 (.slice p1 M c1) (.slice p2 K c2) (.slice p j cp) (.slice none 0 0)) wa ∧ wa.ownsRow w.heap.size 3 1 (.slice p1 M c1) M (intVals (rtab s.data.toList).1) ∧ wa.ownsRow w.heap.size 3 1 (.slice p2 K c2) K (intVals (rks s.data.toList).1) ∧ wa.ownsRow w.heap.size 38 4 (.slice vo (j + 1) vc) (j + 1) (qdVals (lj ++ [(k0, k1, k2, k3)]))) := by
        obtain ⟨h1, h2, h3, h4⟩ := HD4.out
        refine ⟨h1.grow h4 (by decide) (by decide) (Nat.le_refl _) o2, owned_grown h2 h4 (by decide) o2, owned_grown h3 h4 (by decide) o2, ?_⟩
        rw [qdVals, List.flatMap_append]
        have e : [(k0, k1, k2, k3)].flatMap qdCells = qdCells (k0, k1, k2, k3) := by simp [qdCells]
        rw [e]
        exact o1
      clear HD3 HD4 HS o1 o2 o3
      have y8 := HD5.out.1.cell 8 rfl
      have f8 := HD5.out.1.fz 8
      simp only [Act.put]
      refine wpAnyY_pure (i := 17) 91 (v := .pointer (some ⟨gc, 8, none⟩)) rfl rfl (by kernel_rfl) (by kernel_rfl) (by kernel_rfl) (fun _ _ _ h => h) (Or.inl ⟨by rfl, by (intro W _; go_simp)⟩) ?_
      simp only [Act.put]
      refine wpAnyY_one (i := 18) rfl (by kernel_rfl) (fun Kc hKc => ?_)
      go_simp
      refine hKc.out _ _ (fun h => absurd h (by decide)) ?_
      clear hKc Kc
      refine wpAnyY_done (by kernel_rfl) ?_ _
      have HD6 : Hid (Dg w (w.heap.size + 1) gc s (sn) (rcC (L : Int) a1 a2 a3 a4 a5 (.slice p1 M c1) (.slice p2 K c2) (.slice vo (j + 1) vc) (.slice none 0 0)) (wa.setCell ⟨gc, 8, none⟩ (.slice vo (j + 1) vc)) ∧ (wa.setCell ⟨gc, 8, none⟩ (.slice vo (j + 1) vc)).ownsRow w.heap.size 3 1 (.slice p1 M c1) M (intVals (rtab s.data.toList).1) ∧ (wa.setCell ⟨gc, 8, none⟩ (.slice vo (j + 1) vc)).ownsRow w.heap.size 3 1 (.slice p2 K c2) K (intVals (rks s.data.toList).1) ∧ (wa.setCell ⟨gc, 8, none⟩ (.slice vo (j + 1) vc)).ownsRow w.heap.size 38 4 (.slice vo (j + 1) vc) (j + 1) (qdVals (lj ++ [(k0, k1, k2, k3)]))) := by
        obtain ⟨h1, h2, h3, h4⟩ := HD5.out
        exact ⟨h1.put 8 _, h1.own h2 (by decide) 8 _, h1.own h3 (by decide) 8 _, h1.own h4 (by decide) 8 _⟩
      generalize wa.setCell ⟨gc, 8, none⟩ (.slice vo (j + 1) vc) = wz at HD6 ⊢
      clear HD5 y8 f8
      go_wp2
      go_roundg (gk - 1)
      case rel => exact ⟨j + 1, vo, vc, by omega, by go_num, by rw [HS2.out]; exact HD6⟩
      case measure => omega
    obtain rfl : j = n := by omega
    obtain ⟨n, rfl⟩ : ∃ v, v = j := ⟨_, rfl⟩
    obtain ⟨p3, rfl⟩ : ∃ v, v = p := ⟨_, rfl⟩
    obtain ⟨c3, rfl⟩ : ∃ v, v = cp := ⟨_, rfl⟩
    have hlc := rqs_le s.data.toList n ic
    have HC1 : Hid (Dg w (w.heap.size + 1) gc s (rcs s.data.toList).2 (rcC (L : Int) a1 a2 a3 a4 a5 (.slice p1 M c1) (.slice p2 K c2) (.slice p3 n c3) (.slice none 0 0)) wr ∧ wr.ownsRow w.heap.size 3 1 (.slice p1 M c1) M (intVals (rtab s.data.toList).1) ∧ wr.ownsRow w.heap.size 3 1 (.slice p2 K c2) K (intVals (rks s.data.toList).1) ∧ wr.ownsRow w.heap.size 38 4 (.slice p3 n c3) n (qdVals (rcs s.data.toList).1)) := by
      have := HO.out
      rw [← HC.out] at this
      exact this
    rw [← HC.out] at hlc
    clear HO HC hjn hj
    have hdd : (decide ((n : Int) < nc) = false) ∨ (decide ((n : Int) < nc) = true ∧ decide (nc ≤ 1000) = false) := by
      rcases hn0 with ⟨h1, h2⟩ | ⟨h1, h2⟩
      · left; exact decide_eq_false (by omega)
      · right; exact ⟨decide_eq_true (by omega), decide_eq_false (by omega)⟩
    clear hn0
    have hsc : (rcs s.data.toList).2 ≤ 60000 := by omega
    have HAr : Hid (ras s.data.toList = rqs s.data.toList (cntR (rnum s.data.toList (rcs s.data.toList).2).1 160) (rnum s.data.toList (rcs s.data.toList).2).2) := rfl
    have hp7 := rnum_le s.data.toList (rcs s.data.toList).2
    have hz7 := rnum_bd s.data.toList (rcs s.data.toList).2
    have HN2 : Hid (Calls Tryd.prog 37 #[.pointer (some ⟨w.heap.size + 1, 0, none⟩)] wr fun e w' => e = .returned (.int .i64 (rnum s.data.toList (rcs s.data.toList).2).1) ∧ Rf w' (w.heap.size + 1) s (rnum s.data.toList (rcs s.data.toList).2).2 ∧ wr.grownBy w' (some (w.heap.size + 1))) := refNum_calls _ s _ wr HC1.out.1.rd (by omega)
    generalize rnum s.data.toList (rcs s.data.toList).2 = nna at HN2 HAr hz7 hp7
    obtain ⟨na, ia⟩ := nna
    simp only at HN2 HAr hz7 hp7
    have hia : ia ≤ 70000 := by omega
    obtain ⟨m, hm⟩ : ∃ m, cntR na 160 = m := ⟨_, rfl⟩
    have hm0 : (na ≤ 160 ∧ ((0 ≤ na ∧ na = (m : Int)) ∨ (na < 0 ∧ m = 0))) ∨ (160 < na ∧ m = 0) := by
      unfold cntR at hm; split at hm <;> omega
    rw [hm] at HAr
    have hm160 : m ≤ 160 := by omega
    clear hm hp7 hsc hlc hp2 hp3 hp4 hp5 hz3 hz5 hic
    rcases hdd with d1 | ⟨d1, d2⟩
    all_goals
      go_wp2_with fail
      refine HN2.out.mono ?_
      rintro e w8 ⟨rfl, hr8, hg8⟩
      have H0 : Hid (Dg w (w.heap.size + 1) gc s (rqs s.data.toList 0 ia).2 (rcC (L : Int) a1 a2 a3 a4 a5 (.slice p1 M c1) (.slice p2 K c2) (.slice p3 n c3) (.slice none 0 0)) w8 ∧ w8.ownsRow w.heap.size 3 1 (.slice p1 M c1) M (intVals (rtab s.data.toList).1) ∧ w8.ownsRow w.heap.size 3 1 (.slice p2 K c2) K (intVals (rks s.data.toList).1) ∧ w8.ownsRow w.heap.size 40 4 (.slice none 0 0) 0 (qdVals (rqs s.data.toList 0 ia).1) ∧ w8.ownsRow w.heap.size 38 4 (.slice p3 n c3) n (qdVals (rcs s.data.toList).1)) := by
        obtain ⟨h1, h2, h3, h4⟩ := HC1.out
        exact ⟨h1.call hr8 hg8, own_rf h2 (by decide) h1.rd hg8, own_rf h3 (by decide) h1.rd hg8, ⟨rfl, .inl ⟨rfl, rfl⟩⟩, own_rf h4 (by decide) h1.rd hg8⟩
      clear hr8 hg8 HC1 HN2
      go_wp2
      go_loopg [10, 11] m (fun q v8 _ wr => ∃ (j : Nat) (p : Option Addr) (cp : Nat), j + q = m ∧ v8 = .int .i64 (j : Int) ∧ Hid (Dg w (w.heap.size + 1) gc s ((rqs s.data.toList j ia).2) (rcC (L : Int) a1 a2 a3 a4 a5 (.slice p1 M c1) (.slice p2 K c2) (.slice p3 n c3) (.slice p j cp)) wr ∧ wr.ownsRow w.heap.size 3 1 (.slice p1 M c1) M (intVals (rtab s.data.toList).1) ∧ wr.ownsRow w.heap.size 3 1 (.slice p2 K c2) K (intVals (rks s.data.toList).1) ∧ wr.ownsRow w.heap.size 40 4 (.slice p j cp) j (qdVals ((rqs s.data.toList j ia).1)) ∧ wr.ownsRow w.heap.size 38 4 (.slice p3 n c3) n (qdVals (rcs s.data.toList).1)))
      case atStart => exact ⟨0, none, 0, by omega, rfl, H0⟩
      case round =>
        clear H0
        obtain ⟨j, p, cp, hjn, rfl, HO⟩ := hrel
        by_cases hj : j < m
        · have hgk : 0 < gk := by omega
          have hcn : na = (m : Int) := by omega
          have d1 : decide ((j : Int) < na) = true := decide_eq_true (by omega)
          have d2 : decide (na ≤ 160) = true := decide_eq_true (by omega)
          clear hcn
          have hrl := rqs_le s.data.toList j ia
          have HSu : Hid (rqs s.data.toList (j + 1) ia = _) := rqs_succ s.data.toList j ia
          generalize rqs s.data.toList j ia = rj at HO HSu hrl
          obtain ⟨lj, sj⟩ := rj
          simp only at HO HSu hrl
          go_wp2_with fail
          refine (refNums_calls _ s _ 4 4 _ HO.out.1.rd (by omega) (by omega) (by omega)).mono ?_
          rintro e w2 ⟨v, rfl, hown, hr2, hg2⟩
          rw [show cntR 4 4 = 4 from rfl] at hown hr2
          obtain ⟨g, cap, rfl, hcap, hcm⟩ := own_some hown
          obtain ⟨k0, k1, k2, k3, hl⟩ := four4 (rnums_len s.data.toList 4 sj)
          have HS2 : Hid (rqs s.data.toList (j + 1) ia = (lj ++ [(k0, k1, k2, k3)], (rnums s.data.toList 4 sj).2)) := by
            show _ = _
            rw [HSu.out, hl]; rfl
          rw [hl] at hown
          generalize (rnums s.data.toList 4 sj).2 = sn at hr2 HS2
          have HO2 : Hid (Dg w (w.heap.size + 1) gc s (sn) (rcC (L : Int) a1 a2 a3 a4 a5 (.slice p1 M c1) (.slice p2 K c2) (.slice p3 n c3) (.slice p j cp)) w2 ∧ w2.ownsRow w.heap.size 3 1 (.slice p1 M c1) M (intVals (rtab s.data.toList).1) ∧ w2.ownsRow w.heap.size 3 1 (.slice p2 K c2) K (intVals (rks s.data.toList).1) ∧ w2.ownsRow w.heap.size 40 4 (.slice p j cp) j (qdVals (lj)) ∧ w2.ownsRow w.heap.size 38 4 (.slice p3 n c3) n (qdVals (rcs s.data.toList).1)) := by
            obtain ⟨h1, h2, h3, h4, h5⟩ := HO.out
            exact ⟨h1.call hr2 hg2, own_rf h2 (by decide) h1.rd hg2, own_rf h3 (by decide) h1.rd hg2, own_rf h4 (by decide) h1.rd hg2, own_rf h5 (by decide) h1.rd hg2⟩
          have HK4 : Hid (w2.cell? ⟨g, 0, none⟩ = some (.int .i64 k0) ∧ w2.cell? ⟨g, 1, none⟩ = some (.int .i64 k1) ∧ w2.cell? ⟨g, 2, none⟩ = some (.int .i64 k2) ∧ w2.cell? ⟨g, 3, none⟩ = some (.int .i64 k3)) := ⟨own_cells hown 0 rfl, own_cells hown 1 rfl, own_cells hown 2 rfl, own_cells hown 3 rfl⟩
          clear hown hr2 hg2 HO HSu hl
          go_upto_region 20 with (fail)
          have HD3 : Hid (Dg w (w.heap.size + 1) gc s (sn) (rcC (L : Int) a1 a2 a3 a4 a5 (.slice p1 M c1) (.slice p2 K c2) (.slice p3 n c3) (.slice p j cp)) w2.drew ∧ w2.drew.ownsRow w.heap.size 3 1 (.slice p1 M c1) M (intVals (rtab s.data.toList).1) ∧ w2.drew.ownsRow w.heap.size 3 1 (.slice p2 K c2) K (intVals (rks s.data.toList).1) ∧ w2.drew.ownsRow w.heap.size 40 4 (.slice p j cp) j (qdVals (lj)) ∧ w2.drew.ownsRow w.heap.size 38 4 (.slice p3 n c3) n (qdVals (rcs s.data.toList).1)) := by
            obtain ⟨h1, h2, h3, h4, h5⟩ := HO2.out
            exact ⟨h1.drewN 1, owned_below h2 (Below.refl _ _).drew, owned_below h3 (Below.refl _ _).drew, owned_below h4 (Below.refl _ _).drew, owned_below h5 (Below.refl _ _).drew⟩
          have HS : Hid ((fun W : World => W.cell? ⟨gc, 9, none⟩ = some (.slice p j cp) ∧ W.cell? ⟨g, 0, none⟩ = some (.int .i64 k0) ∧ W.cell? ⟨g, 1, none⟩ = some (.int .i64 k1) ∧ W.cell? ⟨g, 2, none⟩ = some (.int .i64 k2) ∧ W.cell? ⟨g, 3, none⟩ = some (.int .i64 k3)) w2.drew) := ⟨HD3.out.1.cell 9 rfl, HK4.out.1, HK4.out.2.1, HK4.out.2.2.1, HK4.out.2.2.2⟩
          clear HO2 HK4
          refine wp_region_Y (fun j => [16, 18].contains j) (fun W : World => W.cell? ⟨gc, 9, none⟩ = some (.slice p j cp) ∧ W.cell? ⟨g, 0, none⟩ = some (.int .i64 k0) ∧ W.cell? ⟨g, 1, none⟩ = some (.int .i64 k1) ∧ W.cell? ⟨g, 2, none⟩ = some (.int .i64 k2) ∧ W.cell? ⟨g, 3, none⟩ = some (.int .i64 k3)) (by kernel_rfl) ?_
          refine wpAnyY_pure (i := 0) 105 (v := .pointer (some ⟨gc, 9, none⟩)) rfl rfl (by kernel_rfl) (by kernel_rfl) (by kernel_rfl) (fun _ _ _ h => h) (Or.inl ⟨by rfl, by (intro W _; go_simp)⟩) ?_
          simp only [Act.put, List.setIfInBounds_toArray, List.set_cons_succ, List.set_cons_zero]
          refine wpAnyY_takeD (i := 1) 106 (v := .slice p j cp) rfl rfl (by kernel_rfl) (by kernel_rfl) (late_of (by kernel_rfl)) (by kernel_rfl) (by kernel_rfl) (fun _ _ _ h => h) HS.out (Or.inl ⟨by rfl, by (intro W hW; obtain ⟨e8, e0, e1, e2, e3⟩ := hW; go_simp)⟩) ?_
          simp only [Act.put, List.setIfInBounds_toArray, List.set_cons_succ, List.set_cons_zero]
          refine wpAnyY_pure (i := 2) 107 (v := .slice (some ⟨g, 0, none⟩) 4 cap) rfl rfl (by kernel_rfl) (by kernel_rfl) (by kernel_rfl) (fun _ _ _ h => h) (Or.inl ⟨by rfl, by (intro W _; go_simp)⟩) ?_
          simp only [Act.put, List.setIfInBounds_toArray, List.set_cons_succ, List.set_cons_zero]
          refine wpAnyY_pure (i := 3) 108 (v := .pointer (some ⟨g, 0, none⟩)) rfl rfl (by kernel_rfl) (by kernel_rfl) (by kernel_rfl) (fun _ _ _ h => h) (Or.inl ⟨by rfl, by (intro W _; go_simp)⟩) ?_
          simp only [Act.put, List.setIfInBounds_toArray, List.set_cons_succ, List.set_cons_zero]
          refine wpAnyY_takeD (i := 4) 109 (v := .int .i64 k0) rfl rfl (by kernel_rfl) (by kernel_rfl) (late_of (by kernel_rfl)) (by kernel_rfl) (by kernel_rfl) (fun _ _ _ h => h) HS.out (Or.inl ⟨by rfl, by (intro W hW; obtain ⟨e8, e0, e1, e2, e3⟩ := hW; go_simp)⟩) ?_
          simp only [Act.put, List.setIfInBounds_toArray, List.set_cons_succ, List.set_cons_zero]
          refine wpAnyY_pure (i := 5) 110 (v := .slice (some ⟨g, 0, none⟩) 4 cap) rfl rfl (by kernel_rfl) (by kernel_rfl) (by kernel_rfl) (fun _ _ _ h => h) (Or.inl ⟨by rfl, by (intro W _; go_simp)⟩) ?_
          simp only [Act.put, List.setIfInBounds_toArray, List.set_cons_succ, List.set_cons_zero]
          refine wpAnyY_pure (i := 6) 111 (v := .pointer (some ⟨g, 1, none⟩)) rfl rfl (by kernel_rfl) (by kernel_rfl) (by kernel_rfl) (fun _ _ _ h => h) (Or.inl ⟨by rfl, by (intro W _; go_simp)⟩) ?_
          simp only [Act.put, List.setIfInBounds_toArray, List.set_cons_succ, List.set_cons_zero]
          refine wpAnyY_takeD (i := 7) 112 (v := .int .i64 k1) rfl rfl (by kernel_rfl) (by kernel_rfl) (late_of (by kernel_rfl)) (by kernel_rfl) (by kernel_rfl) (fun _ _ _ h => h) HS.out (Or.inl ⟨by rfl, by (intro W hW; obtain ⟨e8, e0, e1, e2, e3⟩ := hW; go_simp)⟩) ?_
          simp only [Act.put, List.setIfInBounds_toArray, List.set_cons_succ, List.set_cons_zero]
          refine wpAnyY_pure (i := 8) 113 (v := .slice (some ⟨g, 0, none⟩) 4 cap) rfl rfl (by kernel_rfl) (by kernel_rfl) (by kernel_rfl) (fun _ _ _ h => h) (Or.inl ⟨by rfl, by (intro W _; go_simp)⟩) ?_
          simp only [Act.put, List.setIfInBounds_toArray, List.set_cons_succ, List.set_cons_zero]
          refine wpAnyY_pure (i := 9) 114 (v := .pointer (some ⟨g, 2, none⟩)) rfl rfl (by kernel_rfl) (by kernel_rfl) (by kernel_rfl) (fun _ _ _ h => h) (Or.inl ⟨by rfl, by (intro W _; go_simp)⟩) ?_
          simp only [Act.put, List.setIfInBounds_toArray, List.set_cons_succ, List.set_cons_zero]
          refine wpAnyY_takeD (i := 10) 115 (v := .int .i64 k2) rfl rfl (by kernel_rfl) (by kernel_rfl) (late_of (by kernel_rfl)) (by kernel_rfl) (by kernel_rfl) (fun _ _ _ h => h) HS.out (Or.inl ⟨by rfl, by (intro W hW; obtain ⟨e8, e0, e1, e2, e3⟩ := hW; go_simp)⟩) ?_
          simp only [Act.put, List.setIfInBounds_toArray, List.set_cons_succ, List.set_cons_zero]
          refine wpAnyY_pure (i := 11) 116 (v := .slice (some ⟨g, 0, none⟩) 4 cap) rfl rfl (by kernel_rfl) (by kernel_rfl) (by kernel_rfl) (fun _ _ _ h => h) (Or.inl ⟨by rfl, by (intro W _; go_simp)⟩) ?_
          simp only [Act.put, List.setIfInBounds_toArray, List.set_cons_succ, List.set_cons_zero]
          refine wpAnyY_pure (i := 12) 117 (v := .pointer (some ⟨g, 3, none⟩)) rfl rfl (by kernel_rfl) (by kernel_rfl) (by kernel_rfl) (fun _ _ _ h => h) (Or.inl ⟨by rfl, by (intro W _; go_simp)⟩) ?_
          simp only [Act.put, List.setIfInBounds_toArray, List.set_cons_succ, List.set_cons_zero]
          refine wpAnyY_takeD (i := 13) 118 (v := .int .i64 k3) rfl rfl (by kernel_rfl) (by kernel_rfl) (late_of (by kernel_rfl)) (by kernel_rfl) (by kernel_rfl) (fun _ _ _ h => h) HS.out (Or.inl ⟨by rfl, by (intro W hW; obtain ⟨e8, e0, e1, e2, e3⟩ := hW; go_simp)⟩) ?_
          simp only [Act.put, List.setIfInBounds_toArray, List.set_cons_succ, List.set_cons_zero]
          refine wpAnyY_pure (i := 14) 119 (v := .agg #[.int .i64 k0, .int .i64 k1, .int .i64 k2, .int .i64 k3]) rfl rfl (by kernel_rfl) (by kernel_rfl) (by kernel_rfl) (fun _ _ _ h => h) (Or.inl ⟨by rfl, by (intro W _; go_simp)⟩) ?_
          simp only [Act.put, List.setIfInBounds_toArray, List.set_cons_succ, List.set_cons_zero]
          refine wpAnyY_one (i := 15) rfl (by kernel_rfl) (fun Kc hKc => ?_)
          go_simp
          refine hKc.out _ _ (fun _ h => ⟨cell_low h.1 _, cell_low h.2.1 _, cell_low h.2.2.1 _, cell_low h.2.2.2.1 _, cell_low h.2.2.2.2 _⟩) ?_
          clear hKc Kc
          have HD4 : Hid (Dg w (w.heap.size + 1) gc s (sn) (rcC (L : Int) a1 a2 a3 a4 a5 (.slice p1 M c1) (.slice p2 K c2) (.slice p3 n c3) (.slice p j cp)) (w2.drew.alloc (.cells (qdCells (k0, k1, k2, k3)).toArray 40)) ∧ (w2.drew.alloc (.cells (qdCells (k0, k1, k2, k3)).toArray 40)).ownsRow w.heap.size 3 1 (.slice p1 M c1) M (intVals (rtab s.data.toList).1) ∧ (w2.drew.alloc (.cells (qdCells (k0, k1, k2, k3)).toArray 40)).ownsRow w.heap.size 3 1 (.slice p2 K c2) K (intVals (rks s.data.toList).1) ∧ (w2.drew.alloc (.cells (qdCells (k0, k1, k2, k3)).toArray 40)).ownsRow w.heap.size 40 4 (.slice p j cp) j (qdVals (lj)) ∧ (w2.drew.alloc (.cells (qdCells (k0, k1, k2, k3)).toArray 40)).ownsRow w.heap.size 38 4 (.slice p3 n c3) n (qdVals (rcs s.data.toList).1)) := by
            obtain ⟨h1, h2, h3, h4, h5⟩ := HD3.out
            exact ⟨h1.alloc _, owned_below h2 (below_new _), owned_below h3 (below_new _), owned_below h4 (below_new _), owned_below h5 (below_new _)⟩
          refine wpAnyY_one (i := 16) rfl (by kernel_rfl) (fun Kc hKc => ?_)
          refine step_append_fresh rfl (.tmp 106) (.tmp 120) 24 rfl w.heap.size 40 i40 _ 4 32 Tryd.underlying24 HI40.out.1 HI40.out.2.1 HI40.out.2.2.1 HI40.out.2.2.2 rfl (by decide) (.slice p j cp) _ _ (by simp [Act.eval]) HD4.out.2.2.2.1 ⟨w2.heap.size, 0, none⟩ 1 1 (qdCells (k0, k1, k2, k3)) (by simp [Act.eval]) rfl (cells_new4 w2.drew _ 40) (qd_one _) (by unfold maxLen; omega) (by omega) HD4.out.1.low.size ?_
          intro v wa o1 o2 o3
          refine hKc.out _ _ (fun h => absurd h (by decide)) ?_
          clear hKc Kc
          obtain ⟨vo, vc, hv⟩ := owned_shape o1
          subst hv
          have HD5 : Hid (Dg w (w.heap.size + 1) gc s sn (rcC (L : Int) a1 a2 a3 a4 a5 (.slice p1 M c1) (.slice p2 K c2) (.slice p3 n c3) (.slice p j cp)) wa ∧ wa.ownsRow w.heap.size 3 1 (.slice p1 M c1) M (intVals (rtab s.data.toList).1) ∧ wa.ownsRow w.heap.size 3 1 (.slice p2 K c2) K (intVals (rks s.data.toList).1) ∧ wa.ownsRow w.heap.size 40 4 (.slice vo (j + 1) vc) (j + 1) (qdVals (lj ++ [(k0, k1, k2, k3)])) ∧ wa.ownsRow w.heap.size 38 4 (.slice p3 n c3) n (qdVals (rcs s.data.toList).1)) := by
            obtain ⟨h1, h2, h3, h4, h5⟩ := HD4.out
            refine ⟨h1.grow h4 (by decide) (by decide) (Nat.le_refl _) o2, owned_grown h2 h4 (by decide) o2, owned_grown h3 h4 (by decide) o2, ?_, owned_grown h5 h4 (by decide) o2⟩
            rw [qdVals, List.flatMap_append]
            have e : [(k0, k1, k2, k3)].flatMap qdCells = qdCells (k0, k1, k2, k3) := by simp [qdCells]
            rw [e]
            exact o1
          clear HD3 HD4 HS o1 o2 o3
          have y8 := HD5.out.1.cell 9 rfl
          have f8 := HD5.out.1.fz 9
          simp only [Act.put]
          refine wpAnyY_pure (i := 17) 122 (v := .pointer (some ⟨gc, 9, none⟩)) rfl rfl (by kernel_rfl) (by kernel_rfl) (by kernel_rfl) (fun _ _ _ h => h) (Or.inl ⟨by rfl, by (intro W _; go_simp)⟩) ?_
          simp only [Act.put]
          refine wpAnyY_one (i := 18) rfl (by kernel_rfl) (fun Kc hKc => ?_)
          go_simp
          refine hKc.out _ _ (fun h => absurd h (by decide)) ?_
          clear hKc Kc
          refine wpAnyY_done (by kernel_rfl) ?_ _
          have HD6 : Hid (Dg w (w.heap.size + 1) gc s (sn) (rcC (L : Int) a1 a2 a3 a4 a5 (.slice p1 M c1) (.slice p2 K c2) (.slice p3 n c3) (.slice vo (j + 1) vc)) (wa.setCell ⟨gc, 9, none⟩ (.slice vo (j + 1) vc)) ∧ (wa.setCell ⟨gc, 9, none⟩ (.slice vo (j + 1) vc)).ownsRow w.heap.size 3 1 (.slice p1 M c1) M (intVals (rtab s.data.toList).1) ∧ (wa.setCell ⟨gc, 9, none⟩ (.slice vo (j + 1) vc)).ownsRow w.heap.size 3 1 (.slice p2 K c2) K (intVals (rks s.data.toList).1) ∧ (wa.setCell ⟨gc, 9, none⟩ (.slice vo (j + 1) vc)).ownsRow w.heap.size 40 4 (.slice vo (j + 1) vc) (j + 1) (qdVals (lj ++ [(k0, k1, k2, k3)])) ∧ (wa.setCell ⟨gc, 9, none⟩ (.slice vo (j + 1) vc)).ownsRow w.heap.size 38 4 (.slice p3 n c3) n (qdVals (rcs s.data.toList).1)) := by
            obtain ⟨h1, h2, h3, h4, h5⟩ := HD5.out
            exact ⟨h1.put 9 _, h1.own h2 (by decide) 9 _, h1.own h3 (by decide) 9 _, h1.own h4 (by decide) 9 _, h1.own h5 (by decide) 9 _⟩
          generalize wa.setCell ⟨gc, 9, none⟩ (.slice vo (j + 1) vc) = wz at HD6 ⊢
          clear HD5 y8 f8
          go_wp2
          go_roundg (gk - 1)
          case rel => exact ⟨j + 1, vo, vc, by omega, by go_num, by rw [HS2.out]; exact HD6⟩
          case measure => omega
        obtain rfl : j = m := by omega
        have HA1 : Hid (Dg w (w.heap.size + 1) gc s (ras s.data.toList).2 (rcC (L : Int) a1 a2 a3 a4 a5 (.slice p1 M c1) (.slice p2 K c2) (.slice p3 n c3) (.slice p j cp)) wr ∧ wr.ownsRow w.heap.size 3 1 (.slice p1 M c1) M (intVals (rtab s.data.toList).1) ∧ wr.ownsRow w.heap.size 3 1 (.slice p2 K c2) K (intVals (rks s.data.toList).1) ∧ wr.ownsRow w.heap.size 40 4 (.slice p j cp) j (qdVals (ras s.data.toList).1) ∧ wr.ownsRow w.heap.size 38 4 (.slice p3 n c3) n (qdVals (rcs s.data.toList).1)) := by
          have := HO.out
          rw [← HAr.out] at this
          exact this
        clear HO
        have hdd : (decide ((j : Int) < na) = false) ∨ (decide ((j : Int) < na) = true ∧ decide (na ≤ 160) = false) := by
          rcases hm0 with ⟨h1, h2⟩ | ⟨h1, h2⟩
          · left; exact decide_eq_false (by omega)
          · right; exact ⟨decide_eq_true (by omega), decide_eq_false (by omega)⟩
        clear hm0 hj HAr
        have hRc : rcC (L : Int) a1 a2 a3 a4 a5 (.slice p1 M c1) (.slice p2 K c2) (.slice p3 n c3) (.slice p j cp) = cdCells (rcode s.data.toList) ⟨⟨p1, M, c1⟩, ⟨p2, K, c2⟩, ⟨p3, n, c3⟩, ⟨p, j, cp⟩⟩ := by
          unfold rcode
          rw [HH.out]
          rfl
        have hRd : rdec s.data.toList = if rightB (rcode s.data.toList) = true ∧ textB (rcode s.data.toList) = s.data.toList then (rcode s.data.toList, 0) else (noCd, 150) := by
          rw [rdec, if_neg (by rw [HH.out]; simp only [List.getD_cons_zero]; omega)]
        have HA3 : Hid (Dg w (w.heap.size + 1) gc s (ras s.data.toList).2 (cdCells (rcode s.data.toList) ⟨⟨p1, M, c1⟩, ⟨p2, K, c2⟩, ⟨p3, n, c3⟩, ⟨p, j, cp⟩⟩) wr ∧ wr.ownsRow w.heap.size 3 1 (.slice p1 M c1) M (intVals (rcode s.data.toList).table) ∧ wr.ownsRow w.heap.size 3 1 (.slice p2 K c2) K (intVals (rcode s.data.toList).consts) ∧ wr.ownsRow w.heap.size 40 4 (.slice p j cp) j (qdVals (rcode s.data.toList).arrows) ∧ wr.ownsRow w.heap.size 38 4 (.slice p3 n c3) n (qdVals (rcode s.data.toList).cell)) := by
          have := HA1.out
          rw [hRc] at this
          exact this
        clear HA1 hRc
        obtain ⟨C, hC⟩ : ∃ C, rcode s.data.toList = C := ⟨_, rfl⟩
        rw [hC] at HA3 hRd
        clear hC
        have HRd : Hid (rdec s.data.toList = if rightB C = true ∧ textB C = s.data.toList then (C, 0) else (noCd, 150)) := hRd
        have HA2 : Hid (Dg w (w.heap.size + 1) gc s (ras s.data.toList).2 #[.int .i64 C.letters, .int .i64 C.planes, .int .i64 C.regs, .int .i64 C.lo, .int .i64 C.hi, .int .i64 C.most, .slice p1 M c1, .slice p2 K c2, .slice p3 n c3, .slice p j cp] wr ∧ wr.ownsRow w.heap.size 3 1 (.slice p1 M c1) M (intVals C.table) ∧ wr.ownsRow w.heap.size 3 1 (.slice p2 K c2) K (intVals C.consts) ∧ wr.ownsRow w.heap.size 40 4 (.slice p j cp) j (qdVals C.arrows) ∧ wr.ownsRow w.heap.size 38 4 (.slice p3 n c3) n (qdVals C.cell)) := HA3.out
        have HAt : Hid (CdAt wr C ⟨⟨p1, M, c1⟩, ⟨p2, K, c2⟩, ⟨p3, n, c3⟩, ⟨p, j, cp⟩⟩) := ⟨ints_owned HA2.out.2.1, ints_owned HA2.out.2.2.1, qds_owned HA2.out.2.2.2.2, qds_owned HA2.out.2.2.2.1⟩
        clear hRd HA3 HH HT HK HI38 HI40
        have y0 := HA2.out.1.cell 0 (v := .int .i64 C.letters) rfl
        have y1 := HA2.out.1.cell 1 (v := .int .i64 C.planes) rfl
        have y2 := HA2.out.1.cell 2 (v := .int .i64 C.regs) rfl
        have y3 := HA2.out.1.cell 3 (v := .int .i64 C.lo) rfl
        have y4 := HA2.out.1.cell 4 (v := .int .i64 C.hi) rfl
        have y5 := HA2.out.1.cell 5 (v := .int .i64 C.most) rfl
        have y6 := HA2.out.1.cell 6 (v := .slice p1 M c1) rfl
        have y7 := HA2.out.1.cell 7 (v := .slice p2 K c2) rfl
        have y8 := HA2.out.1.cell 8 (v := .slice p3 n c3) rfl
        have y9 := HA2.out.1.cell 9 (v := .slice p j cp) rfl
        rcases hdd with d3 | ⟨d3, d4⟩
        all_goals
          go_wp2_with fail
          refine (refEncode_calls C ⟨⟨p1, M, c1⟩, ⟨p2, K, c2⟩, ⟨p3, n, c3⟩, ⟨p, j, cp⟩⟩ _ HAt.out).mono ?_
          rintro e w9 ⟨tx, rfl, htx, hb9⟩
          have HD9 : Hid (Dg w (w.heap.size + 1) gc s (ras s.data.toList).2 #[.int .i64 C.letters, .int .i64 C.planes, .int .i64 C.regs, .int .i64 C.lo, .int .i64 C.hi, .int .i64 C.most, .slice p1 M c1, .slice p2 K c2, .slice p3 n c3, .slice p j cp] w9 ∧ w9.ownsRow w.heap.size 3 1 (.slice p1 M c1) M (intVals C.table) ∧ w9.ownsRow w.heap.size 3 1 (.slice p2 K c2) K (intVals C.consts) ∧ w9.ownsRow w.heap.size 40 4 (.slice p j cp) j (qdVals C.arrows) ∧ w9.ownsRow w.heap.size 38 4 (.slice p3 n c3) n (qdVals C.cell)) := by
            obtain ⟨h1, h2, h3, h4, h5⟩ := HA2.out
            exact ⟨h1.new (grown_below hb9), owned_below h2 hb9, owned_below h3 hb9, owned_below h4 hb9, owned_below h5 hb9⟩
          clear hb9 HA2 HAt y0 y1 y2 y3 y4 y5 y6 y7 y8 y9
          have e0 : w9.cell? ⟨w.heap.size, 0, none⟩ = some (.int .i64 0) := cell_block HD9.out.1.rx 0 _ rfl
          have e1 : w9.cell? ⟨w.heap.size, 1, none⟩ = some (.int .i64 0) := cell_block HD9.out.1.rx 1 _ rfl
          have e2 : w9.cell? ⟨w.heap.size, 2, none⟩ = some (.int .i64 0) := cell_block HD9.out.1.rx 2 _ rfl
          have e3 : w9.cell? ⟨w.heap.size, 3, none⟩ = some (.int .i64 0) := cell_block HD9.out.1.rx 3 _ rfl
          have e4 : w9.cell? ⟨w.heap.size, 4, none⟩ = some (.int .i64 0) := cell_block HD9.out.1.rx 4 _ rfl
          have e5 : w9.cell? ⟨w.heap.size, 5, none⟩ = some (.int .i64 0) := cell_block HD9.out.1.rx 5 _ rfl
          have e6 : w9.cell? ⟨w.heap.size, 6, none⟩ = some (.slice none 0 0) := cell_block HD9.out.1.rx 6 _ rfl
          have e7 : w9.cell? ⟨w.heap.size, 7, none⟩ = some (.slice none 0 0) := cell_block HD9.out.1.rx 7 _ rfl
          have e8 : w9.cell? ⟨w.heap.size, 8, none⟩ = some (.slice none 0 0) := cell_block HD9.out.1.rx 8 _ rfl
          have e9 : w9.cell? ⟨w.heap.size, 9, none⟩ = some (.slice none 0 0) := cell_block HD9.out.1.rx 9 _ rfl
          have d0 : w9.cell? ⟨gc, 0, none⟩ = some (.int .i64 C.letters) := cell_block HD9.out.1.bx 0 _ rfl
          have d1 : w9.cell? ⟨gc, 1, none⟩ = some (.int .i64 C.planes) := cell_block HD9.out.1.bx 1 _ rfl
          have d2 : w9.cell? ⟨gc, 2, none⟩ = some (.int .i64 C.regs) := cell_block HD9.out.1.bx 2 _ rfl
          have d3 : w9.cell? ⟨gc, 3, none⟩ = some (.int .i64 C.lo) := cell_block HD9.out.1.bx 3 _ rfl
          have d4 : w9.cell? ⟨gc, 4, none⟩ = some (.int .i64 C.hi) := cell_block HD9.out.1.bx 4 _ rfl
          have d5 : w9.cell? ⟨gc, 5, none⟩ = some (.int .i64 C.most) := cell_block HD9.out.1.bx 5 _ rfl
          have d6 : w9.cell? ⟨gc, 6, none⟩ = some (.slice p1 M c1) := cell_block HD9.out.1.bx 6 _ rfl
          have d7 : w9.cell? ⟨gc, 7, none⟩ = some (.slice p2 K c2) := cell_block HD9.out.1.bx 7 _ rfl
          have d8 : w9.cell? ⟨gc, 8, none⟩ = some (.slice p3 n c3) := cell_block HD9.out.1.bx 8 _ rfl
          have d9 : w9.cell? ⟨gc, 9, none⟩ = some (.slice p j cp) := cell_block HD9.out.1.bx 9 _ rfl
          have ef : ∀ i, w9.frozen? ⟨w.heap.size, i, none⟩ = false := fun i => frozen_of_row w9 _ i _ _ HD9.out.1.rx
          cases hR : rightB C with
          | false =>
            have h2 : encA C = ([], 150) := by rw [encA, if_neg (by rw [hR]; decide)]
            rw [h2]
            have HE : Hid (rdec s.data.toList = (noCd, 150)) := by show _ = _; rw [HRd.out, if_neg (by rw [hR]; simp)]
            clear htx h2
            go_wp2
            refine bodyPost_ret (v := .tuple #[.agg #[.int .i64 0, .int .i64 0, .int .i64 0, .int .i64 0, .int .i64 0, .int .i64 0, .slice none 0 0, .slice none 0 0, .slice none 0 0, .slice none 0 0], .int .i64 150]) ?_ rfl ⟨nilS, ?_, ?_, ?_⟩
            · simp only [results, hres]
              go_simp
            · rw [HE.out]; rfl
            · rw [HE.out]; exact fun V _ => no_at V
            · exact ten_low HD9.out.1.low _ _ _ _ _ _ _ _ _ _
          | true =>
            have h2 : encA C = (textB C, 0) := by rw [encA, if_pos hR]
            rw [h2] at htx ⊢
            simp only at htx ⊢
            by_cases hts : tx = s
            · subst hts
              have HE : Hid (rdec tx.data.toList = (C, 0)) := by show _ = _; rw [HRd.out, if_pos ⟨hR, htx.symm⟩]
              have b1 : (tx.toList == tx.toList) = true := by simp
              clear htx h2
              go_wp2
              have hG := grown_ten w9 w.heap.size (.int .i64 C.letters) (.int .i64 C.planes) (.int .i64 C.regs) (.int .i64 C.lo) (.int .i64 C.hi) (.int .i64 C.most) (.slice p1 M c1) (.slice p2 K c2) (.slice p3 n c3) (.slice p j cp)
              refine bodyPost_ret (v := .tuple #[.agg #[.int .i64 C.letters, .int .i64 C.planes, .int .i64 C.regs, .int .i64 C.lo, .int .i64 C.hi, .int .i64 C.most, .slice p1 M c1, .slice p2 K c2, .slice p3 n c3, .slice p j cp], .int .i64 0]) ?_ rfl ⟨⟨⟨p1, M, c1⟩, ⟨p2, K, c2⟩, ⟨p3, n, c3⟩, ⟨p, j, cp⟩⟩, ?_, ?_, ?_⟩
              · simp only [results, hres]
                go_simp
              · rw [HE.out]; rfl
              · rw [HE.out]
                intro V hV
                obtain ⟨h1, h2, h3, h4, h5⟩ := HD9.out
                exact ⟨ints_owned (own_up (own_kind h2 h1.rx (by decide) hG) hV), ints_owned (own_up (own_kind h3 h1.rx (by decide) hG) hV), qds_owned (own_up (own_kind h5 h1.rx (by decide) hG) hV), qds_owned (own_up (own_kind h4 h1.rx (by decide) hG) hV)⟩
              · exact ten_low HD9.out.1.low _ _ _ _ _ _ _ _ _ _
            · have HE : Hid (rdec s.data.toList = (noCd, 150)) := by
                show _ = _
                rw [HRd.out, if_neg]
                rintro ⟨_, h4⟩
                rw [h4] at htx
                exact hts (ba_ext htx)
              have b1 : (tx.toList == s.toList) = false := by
                rw [beq_eq_false_iff_ne]
                intro h
                rw [ByteArray.toList_eq, ByteArray.toList_eq] at h
                exact hts (ba_ext h)
              clear htx h2
              go_wp2
              refine bodyPost_ret (v := .tuple #[.agg #[.int .i64 0, .int .i64 0, .int .i64 0, .int .i64 0, .int .i64 0, .int .i64 0, .slice none 0 0, .slice none 0 0, .slice none 0 0, .slice none 0 0], .int .i64 150]) ?_ rfl ⟨nilS, ?_, ?_, ?_⟩
              · simp only [results, hres]
                go_simp
              · rw [HE.out]; rfl
              · rw [HE.out]; exact fun V _ => no_at V
              · exact ten_low HD9.out.1.low _ _ _ _ _ _ _ _ _ _
end Go.Proofs.YtignpgoicoojiaaDoor
