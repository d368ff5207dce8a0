/-
  Decode of too few bytes.
-/
import Derived.Test.YtignpgoicoojiaaDoorRdE
namespace Go.Proofs.YtignpgoicoojiaaDoor
open Go.RowKit

structure SB (w : World) (b : Nat) (s : ByteArray) (g0 g : Nat) (cs : Array Value) (W : World) : Prop where
  rd : Rd W b s (0, true)
  r0 : W.heap[g0]? = some (.cells #[.int .i64 0, .int .i64 0, .int .i64 0, .int .i64 0, .int .i64 0, .int .i64 0, .slice none 0 0, .slice none 0 0, .slice none 0 0, .slice none 0 0] 26 (0, 0))
  r1 : W.heap[g]? = some (.cells cs 26 (0, 0))
  gr : w.grownBy W (some b)
theorem SB.next {w : World} {b : Nat} {s : ByteArray} {g0 g : Nat} {cs : Array Value} {W w1 : World} (h : SB w b s g0 g cs W) (hr : Rd w1 b s (0, true)) (hg : W.grownBy w1 (some b)) : SB w b s g0 g cs w1 := by
  have key : ∀ {k : Nat} {c : Array Value}, W.heap[k]? = some (.cells c 26 (0, 0)) → w1.heap[k]? = some (.cells c 26 (0, 0)) := fun hk => by
    rw [hg.block _ (lt_block hk) (fun e => by cases e; rw [h.rd.box] at hk; cases hk)]; exact hk
  exact ⟨hr, key h.r0, key h.r1, grown_trans h.gr hg⟩
theorem SB.low {w : World} {b : Nat} {s : ByteArray} {g0 g : Nat} {cs : Array Value} {W w1 : World} (h : SB w b s g0 g cs W) (hb : Below W.heap.size W w1) : SB w b s g0 g cs w1 :=
  h.next (h.rd.other (grown_below (r := none) hb) (by simp)) (grown_below hb)
theorem grown_drew {w : World} {r : Option Nat} : w.grownBy w.drew r := ⟨rfl, rfl, rfl, Nat.le_refl _, fun _ _ _ => rfl⟩
theorem Rd.drew {w : World} {b : Nat} {s : ByteArray} {st : Sr} (h : Rd w b s st) : Rd w.drew b s st := ⟨h.box, h.le, h.short⟩
theorem mk_mark : (⟨#[72, 76, 88, 49]⟩ : ByteArray).size = 4 := rfl

theorem below_alS {w W : World} (h : Below w.heap.size w W) (o : Obj) : Below w.heap.size w (W.alloc o) := h.alloc h.size o
theorem ten_low {w W : World} (h : Below w.heap.size w W) (v0 v1 v2 v3 v4 v5 v6 v7 v8 v9 : Value) : Below w.heap.size w ((((((((((W.setCell ⟨w.heap.size, 0, none⟩ v0).setCell ⟨w.heap.size, 1, none⟩ v1).setCell ⟨w.heap.size, 2, none⟩ v2).setCell ⟨w.heap.size, 3, none⟩ v3).setCell ⟨w.heap.size, 4, none⟩ v4).setCell ⟨w.heap.size, 5, none⟩ v5).setCell ⟨w.heap.size, 6, none⟩ v6).setCell ⟨w.heap.size, 7, none⟩ v7).setCell ⟨w.heap.size, 8, none⟩ v8).setCell ⟨w.heap.size, 9, none⟩ v9) :=
  h.grown (grown_ten W w.heap.size v0 v1 v2 v3 v4 v5 v6 v7 v8 v9) h.size (fun k hk => by cases hk; exact Nat.le_refl _)
theorem SB.ten {w : World} {b : Nat} {s : ByteArray} {g0 g : Nat} {cs : Array Value} {W : World} (h : SB w b s g0 g cs W) (hn : w.heap.size ≤ g0) (v0 v1 v2 v3 v4 v5 v6 v7 v8 v9 : Value) : Rd ((((((((((W.setCell ⟨g0, 0, none⟩ v0).setCell ⟨g0, 1, none⟩ v1).setCell ⟨g0, 2, none⟩ v2).setCell ⟨g0, 3, none⟩ v3).setCell ⟨g0, 4, none⟩ v4).setCell ⟨g0, 5, none⟩ v5).setCell ⟨g0, 6, none⟩ v6).setCell ⟨g0, 7, none⟩ v7).setCell ⟨g0, 8, none⟩ v8).setCell ⟨g0, 9, none⟩ v9) b s (0, true) ∧ w.grownBy ((((((((((W.setCell ⟨g0, 0, none⟩ v0).setCell ⟨g0, 1, none⟩ v1).setCell ⟨g0, 2, none⟩ v2).setCell ⟨g0, 3, none⟩ v3).setCell ⟨g0, 4, none⟩ v4).setCell ⟨g0, 5, none⟩ v5).setCell ⟨g0, 6, none⟩ v6).setCell ⟨g0, 7, none⟩ v7).setCell ⟨g0, 8, none⟩ v8).setCell ⟨g0, 9, none⟩ v9) (some b) := by
  have hg := grown_ten W g0 v0 v1 v2 v3 v4 v5 v6 v7 v8 v9
  have hne : b ≠ g0 := fun e => by
    have h1 := h.rd.box
    rw [e, h.r0] at h1; cases h1
  refine ⟨h.rd.other hg (fun e => by cases e; exact hne rfl), ?_⟩
  exact ⟨hg.os.trans h.gr.os, hg.tape.trans h.gr.tape, hg.output.trans h.gr.output, Nat.le_trans h.gr.size hg.size, fun k hk hr => (hg.block k (Nat.lt_of_lt_of_le hk h.gr.size) (by intro e; cases e; omega)).trans (h.gr.block k hk hr)⟩

set_option maxHeartbeats 2000000 in
theorem sealedBad (b : Nat) (s : ByteArray) (w : World) (h : Rd w b s (0, false)) (hs : s.size < 4) :
    Calls Tryd.prog 35 #[.pointer (some ⟨b, 0, none⟩)] w fun e w' => ∃ g1 g2 g3 g4, e = .returned (.agg #[.int .i64 0, .int .i64 0, .int .i64 0, .int .i64 0, .int .i64 0, .int .i64 0, .slice (some ⟨g1, 0, none⟩) 0 0, .slice (some ⟨g2, 0, none⟩) 0 0, .slice (some ⟨g3, 0, none⟩) 0 0, .slice (some ⟨g4, 0, none⟩) 0 0]) ∧ Rd w' b s (0, true) ∧ w.grownBy w' (some b) := by
  have hbl : b < w.heap.size := lt_block h.box
  have HR : Hid (Rd w b s (0, false)) := h
  clear h
  have hres : Tryd.f35.results = #[.cell 2 26] := by kernel_rfl
  go_enter Tryd.func35, Tryd.ntmps35
  go_wp2_with fail
  refine (show ExpC _ b s (0, false) ⟨#[72, 76, 88, 49]⟩ from expectBad b s _ (0, false) _ (HR.out.other (grown_below (r := none) (below_new _)) (by simp)) (by rw [mk_mark]; omega) (.inr (by rw [mk_mark]; exact hs))).mono ?_
  rintro e w1 ⟨rfl, hr1, hg1⟩
  have he : expR s.data.toList (⟨#[72, 76, 88, 49]⟩ : ByteArray).data.toList (0, false) = (0, true) := by rw [expR, if_pos (.inr (by simpa using hs))]
  rw [he] at hr1
  have H0 : Hid (w1.heap[w.heap.size]? = some (.cells #[.int .i64 0, .int .i64 0, .int .i64 0, .int .i64 0, .int .i64 0, .int .i64 0, .slice none 0 0, .slice none 0 0, .slice none 0 0, .slice none 0 0] 26 (0, 0)) ∧ w.grownBy w1 (some b) ∧ Rd w1 b s (0, true)) := by
    refine ⟨?_, grown_trans (grown_below (below_new _)) hg1, hr1⟩
    rw [hg1.block _ (by simp) (fun e => by cases e; omega), heap_alloc_new]
  clear hr1 hg1 HR he
  go_wp2_with fail
  refine (codeBad b s 0 w1 H0.out.2.2).mono ?_
  rintro e w2 ⟨g1, g2, g3, g4, rfl, hr2, hg2⟩
  have HS : Hid (SB w b s w.heap.size w2.heap.size #[.int .i64 0, .int .i64 0, .int .i64 0, .int .i64 0, .int .i64 0, .int .i64 0, .slice (some ⟨g1, 0, none⟩) 0 0, .slice (some ⟨g2, 0, none⟩) 0 0, .slice (some ⟨g3, 0, none⟩) 0 0, .slice (some ⟨g4, 0, none⟩) 0 0] (w2.alloc (.cells #[.int .i64 0, .int .i64 0, .int .i64 0, .int .i64 0, .int .i64 0, .int .i64 0, .slice (some ⟨g1, 0, none⟩) 0 0, .slice (some ⟨g2, 0, none⟩) 0 0, .slice (some ⟨g3, 0, none⟩) 0 0, .slice (some ⟨g4, 0, none⟩) 0 0] 26))) := by
    obtain ⟨k0, k1, k2⟩ := H0.out
    refine ⟨hr2.other (grown_below (r := none) (below_new _)) (by simp), ?_, heap_alloc_new _ _, grown_trans (grown_trans k1 hg2) (grown_below (below_new _))⟩
    have hk : w2.heap[w.heap.size]? = some (.cells #[.int .i64 0, .int .i64 0, .int .i64 0, .int .i64 0, .int .i64 0, .int .i64 0, .slice none 0 0, .slice none 0 0, .slice none 0 0, .slice none 0 0] 26 (0, 0)) := by rw [hg2.block _ (lt_block k0) (fun e => by cases e; omega)]; exact k0
    rw [(below_new (w := w2) _).block _ (lt_block hk)]; exact hk
  clear hr2 hg2 H0
  go_upto_region 3 with (fail)
  obtain ⟨g0, hg0⟩ : ∃ g0, w.heap.size = g0 := ⟨_, rfl⟩
  have HG0 : Hid (w.heap.size = g0) := hg0
  rw [hg0] at HS
  clear hg0
  obtain ⟨g, hg⟩ : ∃ g, w2.heap.size = g := ⟨_, rfl⟩
  have HG : Hid (w2.heap.size = g) := hg
  rw [hg] at HS
  clear hg
  obtain ⟨w3, hw3⟩ : ∃ w3, w2.alloc (.cells #[.int .i64 0, .int .i64 0, .int .i64 0, .int .i64 0, .int .i64 0, .int .i64 0, .slice (some ⟨g1, 0, none⟩) 0 0, .slice (some ⟨g2, 0, none⟩) 0 0, .slice (some ⟨g3, 0, none⟩) 0 0, .slice (some ⟨g4, 0, none⟩) 0 0] 26) = w3 := ⟨_, rfl⟩
  have HW3 : Hid (w2.alloc (.cells #[.int .i64 0, .int .i64 0, .int .i64 0, .int .i64 0, .int .i64 0, .int .i64 0, .slice (some ⟨g1, 0, none⟩) 0 0, .slice (some ⟨g2, 0, none⟩) 0 0, .slice (some ⟨g3, 0, none⟩) 0 0, .slice (some ⟨g4, 0, none⟩) 0 0] 26) = w3) := hw3
  rw [hw3] at HS
  clear hw3
  have HSd : Hid (SB w b s g0 g #[.int .i64 0, .int .i64 0, .int .i64 0, .int .i64 0, .int .i64 0, .int .i64 0, .slice (some ⟨g1, 0, none⟩) 0 0, .slice (some ⟨g2, 0, none⟩) 0 0, .slice (some ⟨g3, 0, none⟩) 0 0, .slice (some ⟨g4, 0, none⟩) 0 0] w3.drew) := HS.out.next HS.out.rd.drew grown_drew
  rw [HW3.out, HG.out, HG0.out]
  refine wp_region_Y (fun j => [].contains j) (fun W : World => SB w b s g0 g #[.int .i64 0, .int .i64 0, .int .i64 0, .int .i64 0, .int .i64 0, .int .i64 0, .slice (some ⟨g1, 0, none⟩) 0 0, .slice (some ⟨g2, 0, none⟩) 0 0, .slice (some ⟨g3, 0, none⟩) 0 0, .slice (some ⟨g4, 0, none⟩) 0 0] W) (by kernel_rfl) ?_
  refine wpAnyY_pure (i := 0) 10 (v := .pointer (some ⟨b, 0, none⟩)) rfl rfl (by kernel_rfl) (by kernel_rfl) (by kernel_rfl) (fun _ _ _ h => h) (Or.inl ⟨by rfl, by (intro W _; go_simp)⟩) ?_
  simp only [Act.put, List.setIfInBounds_toArray, List.set_cons_succ, List.set_cons_zero]
  refine wpAnyY_pure (i := 1) 11 (v := .pointer (some ⟨b, 0, none⟩)) rfl rfl (by kernel_rfl) (by kernel_rfl) (by kernel_rfl) (fun _ _ _ h => h) (Or.inl ⟨by rfl, by (intro W _; go_simp)⟩) ?_
  simp only [Act.put, List.setIfInBounds_toArray, List.set_cons_succ, List.set_cons_zero]
  refine wpAnyY_pure (i := 2) 12 (v := .pointer (some ⟨b, 0, none⟩)) rfl rfl (by kernel_rfl) (by kernel_rfl) (by kernel_rfl) (fun _ _ _ h => h) (Or.inl ⟨by rfl, by (intro W _; go_simp)⟩) ?_
  simp only [Act.put, List.setIfInBounds_toArray, List.set_cons_succ, List.set_cons_zero]
  refine wpAnyY_pure (i := 3) 13 (v := .pointer (some ⟨b, 0, none⟩)) rfl rfl (by kernel_rfl) (by kernel_rfl) (by kernel_rfl) (fun _ _ _ h => h) (Or.inl ⟨by rfl, by (intro W _; go_simp)⟩) ?_
  simp only [Act.put, List.setIfInBounds_toArray, List.set_cons_succ, List.set_cons_zero]
  refine wpAnyY_pure (i := 4) 14 (v := .pointer (some ⟨b, 0, none⟩)) rfl rfl (by kernel_rfl) (by kernel_rfl) (by kernel_rfl) (fun _ _ _ h => h) (Or.inl ⟨by rfl, by (intro W _; go_simp)⟩) ?_
  simp only [Act.put, List.setIfInBounds_toArray, List.set_cons_succ, List.set_cons_zero]
  refine wpAnyY_pure (i := 5) 15 (v := .pointer (some ⟨b, 0, none⟩)) rfl rfl (by kernel_rfl) (by kernel_rfl) (by kernel_rfl) (fun _ _ _ h => h) (Or.inl ⟨by rfl, by (intro W _; go_simp)⟩) ?_
  simp only [Act.put, List.setIfInBounds_toArray, List.set_cons_succ, List.set_cons_zero]
  refine wpAnyY_one (i := 6) rfl (by kernel_rfl) (fun Kc hKc => ?_)
  refine step_fnD 16 rfl (by rfl) 45 _ _ rfl Tryd.f45 Tryd.func45 (by kernel_rfl) (by kernel_rfl) #[.pointer (some ⟨b, 0, none⟩)] (by simp [Act.eval]) (read_calls b s (0, true) _ HSd.out.rd) ?_
  rintro e w4 ⟨rfl, n4, hw4⟩
  have HS4 : Hid (SB w b s g0 g #[.int .i64 0, .int .i64 0, .int .i64 0, .int .i64 0, .int .i64 0, .int .i64 0, .slice (some ⟨g1, 0, none⟩) 0 0, .slice (some ⟨g2, 0, none⟩) 0 0, .slice (some ⟨g3, 0, none⟩) 0 0, .slice (some ⟨g4, 0, none⟩) 0 0] w4) := by rw [hw4]; exact HSd.out.next (HSd.out.rd.drewN n4) (grown_drewN n4)
  clear hw4
  refine ⟨_, rfl, hKc.out _ _ (fun _ _ => HS4.out) ?_⟩
  clear hKc Kc
  simp only [Act.put, List.setIfInBounds_toArray, List.set_cons_succ, List.set_cons_zero]
  refine wpAnyY_one (i := 7) rfl (by kernel_rfl) (fun Kc hKc => ?_)
  refine step_fnD 17 rfl (by rfl) 31 _ _ rfl Tryd.f31 Tryd.func31 (by kernel_rfl) (by kernel_rfl) #[.string (s.extract 0 0)] (by simp [Act.eval]) (check_calls (s.extract 0 0) _ (by simp)) ?_
  rintro e w5 ⟨k5, rfl, hk5, hb5⟩
  have HS5 : Hid (SB w b s g0 g #[.int .i64 0, .int .i64 0, .int .i64 0, .int .i64 0, .int .i64 0, .int .i64 0, .slice (some ⟨g1, 0, none⟩) 0 0, .slice (some ⟨g2, 0, none⟩) 0 0, .slice (some ⟨g3, 0, none⟩) 0 0, .slice (some ⟨g4, 0, none⟩) 0 0] w5) := HS4.out.low hb5
  have hks : k5.size = 4 := by rw [← size_toList, hk5]; rfl
  clear hb5 hk5
  refine ⟨_, rfl, hKc.out _ _ (fun _ _ => HS5.out) ?_⟩
  clear hKc Kc
  simp only [Act.put, List.setIfInBounds_toArray, List.set_cons_succ, List.set_cons_zero]
  refine wpAnyY_one (i := 8) rfl (by kernel_rfl) (fun Kc hKc => ?_)
  refine step_fnD 18 rfl (by rfl) 43 _ _ rfl Tryd.f43 Tryd.func43 (by kernel_rfl) (by kernel_rfl) #[.pointer (some ⟨b, 0, none⟩), .string k5] (by simp [Act.eval]) (show ExpC _ b s (0, true) k5 from expectBad b s k5 (0, true) _ HS5.out.rd (by omega) (.inl rfl)) ?_
  rintro e w6 ⟨rfl, hr6, hg6⟩
  have he : expR s.data.toList k5.data.toList (0, true) = (0, true) := by rw [expR, if_pos (.inl rfl)]
  rw [he] at hr6
  have HS6 : Hid (SB w b s g0 g #[.int .i64 0, .int .i64 0, .int .i64 0, .int .i64 0, .int .i64 0, .int .i64 0, .slice (some ⟨g1, 0, none⟩) 0 0, .slice (some ⟨g2, 0, none⟩) 0 0, .slice (some ⟨g3, 0, none⟩) 0 0, .slice (some ⟨g4, 0, none⟩) 0 0] w6) := HS5.out.next hr6 hg6
  clear hr6 hg6 he
  refine ⟨_, rfl, hKc.out _ _ (fun _ _ => HS6.out) ?_⟩
  clear hKc Kc
  simp only [Act.put, List.setIfInBounds_toArray, List.set_cons_succ, List.set_cons_zero]
  refine wpAnyY_done (by kernel_rfl) ?_ _
  clear HS HS4 HS5 HSd
  go_wp2_with fail
  refine (end_calls b s (0, true) w6 HS6.out.rd).mono ?_
  rintro e w7 ⟨rfl, hr7, hg7⟩
  rw [show ((0, true) : Sr).2 = true from rfl, Bool.true_or] at hr7
  have HS7 : Hid (SB w b s g0 g #[.int .i64 0, .int .i64 0, .int .i64 0, .int .i64 0, .int .i64 0, .int .i64 0, .slice (some ⟨g1, 0, none⟩) 0 0, .slice (some ⟨g2, 0, none⟩) 0 0, .slice (some ⟨g3, 0, none⟩) 0 0, .slice (some ⟨g4, 0, none⟩) 0 0] w7) := HS6.out.next hr7 hg7
  clear hr7 hg7 HS6
  have d0 : w7.cell? ⟨g, 0, none⟩ = some (.int .i64 0) := cell_block HS7.out.r1 0 _ rfl
  have d1 : w7.cell? ⟨g, 1, none⟩ = some (.int .i64 0) := cell_block HS7.out.r1 1 _ rfl
  have d2 : w7.cell? ⟨g, 2, none⟩ = some (.int .i64 0) := cell_block HS7.out.r1 2 _ rfl
  have d3 : w7.cell? ⟨g, 3, none⟩ = some (.int .i64 0) := cell_block HS7.out.r1 3 _ rfl
  have d4 : w7.cell? ⟨g, 4, none⟩ = some (.int .i64 0) := cell_block HS7.out.r1 4 _ rfl
  have d5 : w7.cell? ⟨g, 5, none⟩ = some (.int .i64 0) := cell_block HS7.out.r1 5 _ rfl
  have d6 : w7.cell? ⟨g, 6, none⟩ = some (.slice (some ⟨g1, 0, none⟩) 0 0) := cell_block HS7.out.r1 6 _ rfl
  have d7 : w7.cell? ⟨g, 7, none⟩ = some (.slice (some ⟨g2, 0, none⟩) 0 0) := cell_block HS7.out.r1 7 _ rfl
  have d8 : w7.cell? ⟨g, 8, none⟩ = some (.slice (some ⟨g3, 0, none⟩) 0 0) := cell_block HS7.out.r1 8 _ rfl
  have d9 : w7.cell? ⟨g, 9, none⟩ = some (.slice (some ⟨g4, 0, none⟩) 0 0) := cell_block HS7.out.r1 9 _ rfl
  have e0 : w7.cell? ⟨g0, 0, none⟩ = some (.int .i64 0) := cell_block HS7.out.r0 0 _ rfl
  have e1 : w7.cell? ⟨g0, 1, none⟩ = some (.int .i64 0) := cell_block HS7.out.r0 1 _ rfl
  have e2 : w7.cell? ⟨g0, 2, none⟩ = some (.int .i64 0) := cell_block HS7.out.r0 2 _ rfl
  have e3 : w7.cell? ⟨g0, 3, none⟩ = some (.int .i64 0) := cell_block HS7.out.r0 3 _ rfl
  have e4 : w7.cell? ⟨g0, 4, none⟩ = some (.int .i64 0) := cell_block HS7.out.r0 4 _ rfl
  have e5 : w7.cell? ⟨g0, 5, none⟩ = some (.int .i64 0) := cell_block HS7.out.r0 5 _ rfl
  have e6 : w7.cell? ⟨g0, 6, none⟩ = some (.slice none 0 0) := cell_block HS7.out.r0 6 _ rfl
  have e7 : w7.cell? ⟨g0, 7, none⟩ = some (.slice none 0 0) := cell_block HS7.out.r0 7 _ rfl
  have e8 : w7.cell? ⟨g0, 8, none⟩ = some (.slice none 0 0) := cell_block HS7.out.r0 8 _ rfl
  have e9 : w7.cell? ⟨g0, 9, none⟩ = some (.slice none 0 0) := cell_block HS7.out.r0 9 _ rfl
  have ef : ∀ i, w7.frozen? ⟨g0, i, none⟩ = false := fun i => frozen_of_row w7 _ i _ _ HS7.out.r0
  go_wp2
  refine bodyPost_ret (v := .agg #[.int .i64 0, .int .i64 0, .int .i64 0, .int .i64 0, .int .i64 0, .int .i64 0, .slice (some ⟨g1, 0, none⟩) 0 0, .slice (some ⟨g2, 0, none⟩) 0 0, .slice (some ⟨g3, 0, none⟩) 0 0, .slice (some ⟨g4, 0, none⟩) 0 0]) ?_ rfl ⟨g1, g2, g3, g4, rfl, ?_⟩
  · simp only [results, hres]
    go_simp
  · exact SB.ten HS7.out (by rw [HG0.out]; exact Nat.le_refl _) _ _ _ _ _ _ _ _ _ _

set_option maxHeartbeats 2000000 in
theorem decodeBad (s : ByteArray) (w : World) (hs : s.size < 4) :
    Calls Tryd.prog 17 #[.string s] w fun e w' => e = .returned (.tuple #[.agg #[.int .i64 0, .int .i64 0, .int .i64 0, .int .i64 0, .int .i64 0, .int .i64 0, .slice none 0 0, .slice none 0 0, .slice none 0 0, .slice none 0 0], .int .i64 150]) ∧ Below w.heap.size w w' := by
  have hres : Tryd.f17.results = #[.cell 2 26, .tmp 3] := by kernel_rfl
  go_enter Tryd.func17, Tryd.ntmps17
  go_wp2_with fail
  have hrd : Rd ((w.alloc (.cells #[.int .i64 0, .int .i64 0, .int .i64 0, .int .i64 0, .int .i64 0, .int .i64 0, .slice none 0 0, .slice none 0 0, .slice none 0 0, .slice none 0 0] 26)).alloc (.cells #[.string s, .int .i64 0, .bool false] 56)) (w.heap.size + 1) s (0, false) := by
    refine ⟨?_, by simp, by unfold maxLen; omega⟩
    rw [show w.heap.size + 1 = (w.alloc (.cells #[.int .i64 0, .int .i64 0, .int .i64 0, .int .i64 0, .int .i64 0, .int .i64 0, .slice none 0 0, .slice none 0 0, .slice none 0 0, .slice none 0 0] 26)).heap.size by simp, heap_alloc_new]; rfl
  refine (sealedBad (w.heap.size + 1) s _ hrd hs).mono ?_
  rintro e w1 ⟨g1, g2, g3, g4, rfl, hr1, hg1⟩
  have k0 : w1.heap[w.heap.size]? = some (.cells #[.int .i64 0, .int .i64 0, .int .i64 0, .int .i64 0, .int .i64 0, .int .i64 0, .slice none 0 0, .slice none 0 0, .slice none 0 0, .slice none 0 0] 26 (0, 0)) := by
    rw [hg1.block _ (by simp; omega) (by simp), (below_new _).block _ (by simp), heap_alloc_new]
  have hb1 : Below w.heap.size w w1 := by
    have h2 : Below w.heap.size w ((w.alloc (.cells #[.int .i64 0, .int .i64 0, .int .i64 0, .int .i64 0, .int .i64 0, .int .i64 0, .slice none 0 0, .slice none 0 0, .slice none 0 0, .slice none 0 0] 26)).alloc (.cells #[.string s, .int .i64 0, .bool false] 56)) := below_al2 (Nat.le_refl _) _ _
    exact ⟨hg1.os.trans h2.os, hg1.tape.trans h2.tape, hg1.output.trans h2.output, Nat.le_trans h2.size hg1.size, fun k hk => (hg1.block k (Nat.lt_of_lt_of_le hk h2.size) (by intro e; cases e; omega)).trans (h2.block k hk)⟩
  have e0 : w1.cell? ⟨w.heap.size, 0, none⟩ = some (.int .i64 0) := cell_block k0 0 _ rfl
  have e1 : w1.cell? ⟨w.heap.size, 1, none⟩ = some (.int .i64 0) := cell_block k0 1 _ rfl
  have e2 : w1.cell? ⟨w.heap.size, 2, none⟩ = some (.int .i64 0) := cell_block k0 2 _ rfl
  have e3 : w1.cell? ⟨w.heap.size, 3, none⟩ = some (.int .i64 0) := cell_block k0 3 _ rfl
  have e4 : w1.cell? ⟨w.heap.size, 4, none⟩ = some (.int .i64 0) := cell_block k0 4 _ rfl
  have e5 : w1.cell? ⟨w.heap.size, 5, none⟩ = some (.int .i64 0) := cell_block k0 5 _ rfl
  have e6 : w1.cell? ⟨w.heap.size, 6, none⟩ = some (.slice none 0 0) := cell_block k0 6 _ rfl
  have e7 : w1.cell? ⟨w.heap.size, 7, none⟩ = some (.slice none 0 0) := cell_block k0 7 _ rfl
  have e8 : w1.cell? ⟨w.heap.size, 8, none⟩ = some (.slice none 0 0) := cell_block k0 8 _ rfl
  have e9 : w1.cell? ⟨w.heap.size, 9, none⟩ = some (.slice none 0 0) := cell_block k0 9 _ rfl
  have ef : ∀ i, w1.frozen? ⟨w.heap.size, i, none⟩ = false := fun i => frozen_of_row w1 _ i _ _ k0
  have c2 := hr1.c2
  simp only at c2
  have HB : Hid (Below w.heap.size w w1) := hb1
  have hlt : w.heap.size < w1.heap.size := lt_block k0
  have hlt1 : w.heap.size + 1 < w1.heap.size := lt_block hr1.box
  clear hr1 hg1 k0 hb1 hrd
  go_wp2
  refine bodyPost_ret (v := .tuple #[.agg #[.int .i64 0, .int .i64 0, .int .i64 0, .int .i64 0, .int .i64 0, .int .i64 0, .slice none 0 0, .slice none 0 0, .slice none 0 0, .slice none 0 0], .int .i64 150]) ?_ rfl ⟨rfl, ?_⟩
  · simp only [results, hres]
    go_simp
  · exact below_alS (ten_low HB.out _ _ _ _ _ _ _ _ _ _) _

end Go.Proofs.YtignpgoicoojiaaDoor
