/-
  The passes' calls. Clamp.
-/
import Derived.Test.YtolehoibpnenlabPsI
import Derived.Test.YtolehoibpnenlabPsK
namespace Go.Proofs.Ytolehoibpnenlab
open Go.RowKit Go.Deep Go.Maps

def foldP : Ps := (18, fun x vs => (foldB x vs, keptB x vs))
def pruneP : Ps := (19, fun x vs => (pruneB x vs, vs))
def drpP : Ps := (20, fun x vs => (dropB x, vs))
def clampP : Ps := (21, fun x vs => (clampB x, vs))
def fnsV : Array Value := #[.func (.func 18) #[] #[], .func (.func 19) #[] #[], .func (.func 20) #[] #[], .func (.func 21) #[] #[]]
theorem foldP_ok : PassOk foldP := by
  refine ⟨enters_of Try.func18 (by kernel_rfl) rfl, fun w base wb x vs y h hr hv => fold_calls w base wb x vs y h hr (by rw [← hv]; exact (right_defs hr).2), fun x vs hr hv => fold_right hr hv⟩
set_option maxRecDepth 20000 in
theorem list_calls (w : World) : Calls Try.prog 13 #[] w fun e w' => ∃ g, e = .returned (.slice (some ⟨g, 0, none⟩) 4 4) ∧ w'.heap[g]? = some (.cells fnsV 45 (0, 0)) ∧ Below w.heap.size w w' := by
  go_enter Try.func13, Try.ntmps13
  go_wp2
  go_ret
  exact ⟨w.heap.size, rfl, heap_alloc_new w _, (Below.refl _ _).alloc (Nat.le_refl _) _⟩
section
variable {x : Rc}
set_option maxRecDepth 20000 in
set_option maxHeartbeats 8000000 in
theorem foldF_any (hok : PassOk foldP ∨ rightR x = false) (da : Option Addr) (dn dc : Nat) (sa : Option Addr) (sn sc : Nat) (ta : Option Addr) (tn tc : Nat) (w : World) (h : RcAt w x da dn sa sn ta tn) :
    Calls Try.prog 6 #[.agg (rcCells x da dn dc sa sn sc ta tn tc)] w fun e w' => PassPost (rightR x) (foldP.2 x (valsB x.defs).1).1 w e w' := by
  have hres : Try.f6.results = #[.cell 2 26, .tmp 3] := by kernel_rfl
  have HB0 : Hid (D5 w (rcCells x da dn dc sa sn sc ta tn tc) ((w.alloc (.cells (rcCells x da dn dc sa sn sc ta tn tc) 26)).alloc (.cells #[.int .i64 0, .slice none 0 0, .slice none 0 0, .int .i64 0, .int .i64 0, .int .i64 0, .int .i64 0, .bool false, .int .i64 0, .int .i64 0, .slice none 0 0] 26))) := D5.start _ _
  have HD : Hid (∀ (W : World) (pg : Nat), Below w.heap.size w W → W.cell? ⟨pg, 0, none⟩ = some (fnV foldP) → Calls Try.prog 12 #[.agg (rcCells x da dn dc sa sn sc ta tn tc), .slice (some ⟨pg, 0, none⟩) 1 1] W fun e w' => PassPost (rightR x) (foldP.2 x (valsB x.defs).1).1 W e w') := fun W pg hW hc => by
    rcases hok with hok | hok
    · exact done_calls [foldP] x da dn dc sa sn sc ta tn tc pg 1 1 W (h.below hW) rfl (by omega) (fun p hp => by obtain rfl := List.mem_singleton.1 hp; exact hok) (fun k p hk => by
        match k, hk with
        | 0, hk => cases hk; exact hc
        | k + 1, hk => simp at hk)
    · rw [hok]; exact done_bad x da dn dc sa sn sc ta tn tc pg 1 1 W (h.below hW) hok _
  clear h hok
  obtain ⟨x2, hx2⟩ : ∃ x2, (foldP.2 x (valsB x.defs).1).1 = x2 := ⟨_, rfl⟩
  obtain ⟨ok, hok⟩ : ∃ ok, rightR x = ok := ⟨_, rfl⟩
  rw [hx2, hok] at HD
  rw [hx2, hok]
  clear hx2 hok
  unfold rcCells at HB0 HD ⊢
  go_enter Try.func6, Try.ntmps6
  go_wp2_with fail
  obtain ⟨W0, hW0⟩ : ∃ W0, W0 = (w.alloc (.cells #[.int .i64 x.letters, .slice da dn dc, .slice sa sn sc, .int .i64 x.beg, .int .i64 x.fin, .int .i64 x.front, .int .i64 x.back, .bool x.banded, .int .i64 x.lo, .int .i64 x.hi, .slice ta tn tc] 26)).alloc (.cells #[.int .i64 0, .slice none 0 0, .slice none 0 0, .int .i64 0, .int .i64 0, .int .i64 0, .int .i64 0, .bool false, .int .i64 0, .int .i64 0, .slice none 0 0] 26) := ⟨_, rfl⟩
  rw [← hW0] at HB0 ⊢
  clear hW0
  have HS : Hid (∀ W, D5 w #[.int .i64 x.letters, .slice da dn dc, .slice sa sn sc, .int .i64 x.beg, .int .i64 x.fin, .int .i64 x.front, .int .i64 x.back, .bool x.banded, .int .i64 x.lo, .int .i64 x.hi, .slice ta tn tc] W → W.cell? ⟨w.heap.size, 0, none⟩ = some (.int .i64 x.letters) ∧ W.cell? ⟨w.heap.size, 1, none⟩ = some (.slice da dn dc) ∧ W.cell? ⟨w.heap.size, 2, none⟩ = some (.slice sa sn sc) ∧ W.cell? ⟨w.heap.size, 3, none⟩ = some (.int .i64 x.beg) ∧ W.cell? ⟨w.heap.size, 4, none⟩ = some (.int .i64 x.fin) ∧ W.cell? ⟨w.heap.size, 5, none⟩ = some (.int .i64 x.front) ∧ W.cell? ⟨w.heap.size, 6, none⟩ = some (.int .i64 x.back) ∧ W.cell? ⟨w.heap.size, 7, none⟩ = some (.bool x.banded) ∧ W.cell? ⟨w.heap.size, 8, none⟩ = some (.int .i64 x.lo) ∧ W.cell? ⟨w.heap.size, 9, none⟩ = some (.int .i64 x.hi) ∧ W.cell? ⟨w.heap.size, 10, none⟩ = some (.slice ta tn tc)) := fun W hW => ⟨blk hW.box rfl, blk hW.box rfl, blk hW.box rfl, blk hW.box rfl, blk hW.box rfl, blk hW.box rfl, blk hW.box rfl, blk hW.box rfl, blk hW.box rfl, blk hW.box rfl, blk hW.box rfl⟩
  have HB0d : Hid (D5 w #[.int .i64 x.letters, .slice da dn dc, .slice sa sn sc, .int .i64 x.beg, .int .i64 x.fin, .int .i64 x.front, .int .i64 x.back, .bool x.banded, .int .i64 x.lo, .int .i64 x.hi, .slice ta tn tc] W0.drew) := HB0.out.next (Below.refl _ _).drew HB0.out.sz
  have hs0 := HS.out _ HB0d.out
  cases ok with
  | false =>
    refine wp_region_Y (fun j => [8].contains j) (fun W : World => W.cell? ⟨w.heap.size, 0, none⟩ = some (.int .i64 x.letters) ∧ W.cell? ⟨w.heap.size, 1, none⟩ = some (.slice da dn dc) ∧ W.cell? ⟨w.heap.size, 2, none⟩ = some (.slice sa sn sc) ∧ W.cell? ⟨w.heap.size, 3, none⟩ = some (.int .i64 x.beg) ∧ W.cell? ⟨w.heap.size, 4, none⟩ = some (.int .i64 x.fin) ∧ W.cell? ⟨w.heap.size, 5, none⟩ = some (.int .i64 x.front) ∧ W.cell? ⟨w.heap.size, 6, none⟩ = some (.int .i64 x.back) ∧ W.cell? ⟨w.heap.size, 7, none⟩ = some (.bool x.banded) ∧ W.cell? ⟨w.heap.size, 8, none⟩ = some (.int .i64 x.lo) ∧ W.cell? ⟨w.heap.size, 9, none⟩ = some (.int .i64 x.hi) ∧ W.cell? ⟨w.heap.size, 10, none⟩ = some (.slice ta tn tc)) (by kernel_rfl) ?_
    refine wpAnyY_takeD (i := 0) 4 (v := .agg #[.int .i64 x.letters, .slice da dn dc, .slice sa sn sc, .int .i64 x.beg, .int .i64 x.fin, .int .i64 x.front, .int .i64 x.back, .bool x.banded, .int .i64 x.lo, .int .i64 x.hi, .slice ta tn tc]) rfl rfl (by kernel_rfl) (by kernel_rfl) (late_of (by kernel_rfl)) (by kernel_rfl) (by kernel_rfl) (fun _ _ _ h => h) hs0 (Or.inl ⟨by rfl, by (intro W hW; obtain ⟨s0, s1, s2, s3, s4, s5, s6, s7, s8, s9, s10⟩ := hW; go_simp)⟩) ?_
    simp only [Act.put, List.setIfInBounds_toArray, List.set_cons_succ, List.set_cons_zero]
    refine wpAnyY_one (i := 1) rfl (by kernel_rfl) (fun Kc hKc => ?_)
    refine step_fn rfl 13 _ _ rfl Try.f13 Try.func13 (by kernel_rfl) (by kernel_rfl) #[] (by simp) (list_calls _) ?_
    rintro e w1 ⟨lg, rfl, hlg, hb1⟩
    have HB1 : Hid (D5 w #[.int .i64 x.letters, .slice da dn dc, .slice sa sn sc, .int .i64 x.beg, .int .i64 x.fin, .int .i64 x.front, .int .i64 x.back, .bool x.banded, .int .i64 x.lo, .int .i64 x.hi, .slice ta tn tc] w1 ∧ w1.heap[lg]? = some (.cells fnsV 45 (0, 0))) := ⟨HB0d.out.next hb1 HB0d.out.sz, hlg⟩
    clear hb1 hlg
    refine ⟨_, rfl, hKc.out _ _ (fun _ _ => HS.out _ HB1.out.1) ?_⟩
    clear hKc Kc
    simp only [Act.put, List.setIfInBounds_toArray]
    have hl0 : w1.cell? ⟨lg, 0, none⟩ = some (.func (.func 18) #[] #[]) := blk HB1.out.2 rfl
    refine wpAnyY_one (i := 2) rfl (by kernel_rfl) (fun Kc hKc => ?_)
    go_simp
    refine hKc.out _ _ (fun _ h => h) ?_
    clear hKc Kc
    refine wpAnyY_one (i := 3) rfl (by kernel_rfl) (fun Kc hKc => ?_)
    go_simp
    refine hKc.out _ _ (fun _ h => h) ?_
    clear hKc Kc
    have HB2 : Hid (D5 w #[.int .i64 x.letters, .slice da dn dc, .slice sa sn sc, .int .i64 x.beg, .int .i64 x.fin, .int .i64 x.front, .int .i64 x.back, .bool x.banded, .int .i64 x.lo, .int .i64 x.hi, .slice ta tn tc] (w1.alloc (.cells #[.func (.func 18) #[] #[]] 45))) := HB1.out.1.next ((Below.refl _ _).alloc (Nat.le_refl _) _) HB1.out.1.sz
    refine wpAnyY_one (i := 4) rfl (by kernel_rfl) (fun Kc hKc => ?_)
    go_simp
    refine hKc.out _ _ (fun _ _ => HS.out _ HB2.out) ?_
    clear hKc Kc
    refine wpAnyY_one (i := 5) rfl (by kernel_rfl) (fun Kc hKc => ?_)
    refine step_fn rfl 12 _ _ rfl Try.f12 Try.func12 (by kernel_rfl) (by kernel_rfl) #[.agg #[.int .i64 x.letters, .slice da dn dc, .slice sa sn sc, .int .i64 x.beg, .int .i64 x.fin, .int .i64 x.front, .int .i64 x.back, .bool x.banded, .int .i64 x.lo, .int .i64 x.hi, .slice ta tn tc], .slice (some ⟨w1.heap.size, 0, none⟩) 1 1] (by simp [Act.eval]) (HD.out (w1.alloc (.cells #[.func (.func 18) #[] #[]] 45)) w1.heap.size HB2.out.low (blk (heap_alloc_new w1 _) rfl)) ?_
    intro e w2 hpp
    simp only [PassPost, Bool.false_eq_true, if_false] at hpp
    obtain ⟨rfl, hb2⟩ := hpp
    have HB3 : Hid (D5 w #[.int .i64 x.letters, .slice da dn dc, .slice sa sn sc, .int .i64 x.beg, .int .i64 x.fin, .int .i64 x.front, .int .i64 x.back, .bool x.banded, .int .i64 x.lo, .int .i64 x.hi, .slice ta tn tc] w2 ∧ True) := ⟨HB2.out.next hb2 HB2.out.sz, trivial⟩
    clear hb2
    unfold zeroR
    refine ⟨_, rfl, hKc.out _ _ (fun _ _ => HS.out _ HB3.out.1) ?_⟩
    clear hKc Kc
    simp only [Act.put]
    refine wpAnyY_pure (i := 6) 10 (v := .agg #[.int .i64 0, .slice none 0 0, .slice none 0 0, .int .i64 0, .int .i64 0, .int .i64 0, .int .i64 0, .bool false, .int .i64 0, .int .i64 0, .slice none 0 0]) rfl rfl (by kernel_rfl) (by kernel_rfl) (by kernel_rfl) (fun _ _ _ h => h) (Or.inl ⟨by rfl, by (intro W _; go_simp)⟩) ?_
    simp only [Act.put]
    refine wpAnyY_pure (i := 7) 11 (v := .int .i64 120) rfl rfl (by kernel_rfl) (by kernel_rfl) (by kernel_rfl) (fun _ _ _ h => h) (Or.inl ⟨by rfl, by (intro W _; go_simp)⟩) ?_
    simp only [Act.put]
    have r0 : w2.cell? ⟨w.heap.size + 1, 0, none⟩ = some (.int .i64 0) := blk HB3.out.1.res rfl
    have r1 : w2.cell? ⟨w.heap.size + 1, 1, none⟩ = some (.slice none 0 0) := blk HB3.out.1.res rfl
    have r2 : w2.cell? ⟨w.heap.size + 1, 2, none⟩ = some (.slice none 0 0) := blk HB3.out.1.res rfl
    have r3 : w2.cell? ⟨w.heap.size + 1, 3, none⟩ = some (.int .i64 0) := blk HB3.out.1.res rfl
    have r4 : w2.cell? ⟨w.heap.size + 1, 4, none⟩ = some (.int .i64 0) := blk HB3.out.1.res rfl
    have r5 : w2.cell? ⟨w.heap.size + 1, 5, none⟩ = some (.int .i64 0) := blk HB3.out.1.res rfl
    have r6 : w2.cell? ⟨w.heap.size + 1, 6, none⟩ = some (.int .i64 0) := blk HB3.out.1.res rfl
    have r7 : w2.cell? ⟨w.heap.size + 1, 7, none⟩ = some (.bool false) := blk HB3.out.1.res rfl
    have r8 : w2.cell? ⟨w.heap.size + 1, 8, none⟩ = some (.int .i64 0) := blk HB3.out.1.res rfl
    have r9 : w2.cell? ⟨w.heap.size + 1, 9, none⟩ = some (.int .i64 0) := blk HB3.out.1.res rfl
    have r10 : w2.cell? ⟨w.heap.size + 1, 10, none⟩ = some (.slice none 0 0) := blk HB3.out.1.res rfl
    have rf : ∀ i, w2.frozen? ⟨w.heap.size + 1, i, none⟩ = false := fun i => frozen_of_row w2 _ i _ _ HB3.out.1.res
    refine wpAnyY_one (i := 8) rfl (by kernel_rfl) (fun Kc hKc => ?_)
    go_simp
    refine hKc.out _ _ (fun h => absurd h (by decide)) ?_
    clear hKc Kc
    refine wpAnyY_one (i := 9) rfl (by kernel_rfl) (fun Kc hKc => ?_)
    go_simp
    refine hKc.out _ _ (fun _ h => h) ?_
    clear hKc Kc
    refine wpAnyY_done (by kernel_rfl) ?_ _
    go_wp2
    refine bodyPost_ret (v := .tuple #[.agg #[.int .i64 0, .slice none 0 0, .slice none 0 0, .int .i64 0, .int .i64 0, .int .i64 0, .int .i64 0, .bool false, .int .i64 0, .int .i64 0, .slice none 0 0], .int .i64 120]) ?_ rfl ?_
    · simp only [results, hres]
      go_simp
    · refine ⟨rfl, ?_⟩
      exact below_r HB3.out.1.low _ _ _ _ _ _ _ _ _ _ _
  | true =>
    refine wp_region_Y (fun j => [8].contains j) (fun W : World => W.cell? ⟨w.heap.size, 0, none⟩ = some (.int .i64 x.letters) ∧ W.cell? ⟨w.heap.size, 1, none⟩ = some (.slice da dn dc) ∧ W.cell? ⟨w.heap.size, 2, none⟩ = some (.slice sa sn sc) ∧ W.cell? ⟨w.heap.size, 3, none⟩ = some (.int .i64 x.beg) ∧ W.cell? ⟨w.heap.size, 4, none⟩ = some (.int .i64 x.fin) ∧ W.cell? ⟨w.heap.size, 5, none⟩ = some (.int .i64 x.front) ∧ W.cell? ⟨w.heap.size, 6, none⟩ = some (.int .i64 x.back) ∧ W.cell? ⟨w.heap.size, 7, none⟩ = some (.bool x.banded) ∧ W.cell? ⟨w.heap.size, 8, none⟩ = some (.int .i64 x.lo) ∧ W.cell? ⟨w.heap.size, 9, none⟩ = some (.int .i64 x.hi) ∧ W.cell? ⟨w.heap.size, 10, none⟩ = some (.slice ta tn tc)) (by kernel_rfl) ?_
    refine wpAnyY_takeD (i := 0) 4 (v := .agg #[.int .i64 x.letters, .slice da dn dc, .slice sa sn sc, .int .i64 x.beg, .int .i64 x.fin, .int .i64 x.front, .int .i64 x.back, .bool x.banded, .int .i64 x.lo, .int .i64 x.hi, .slice ta tn tc]) rfl rfl (by kernel_rfl) (by kernel_rfl) (late_of (by kernel_rfl)) (by kernel_rfl) (by kernel_rfl) (fun _ _ _ h => h) hs0 (Or.inl ⟨by rfl, by (intro W hW; obtain ⟨s0, s1, s2, s3, s4, s5, s6, s7, s8, s9, s10⟩ := hW; go_simp)⟩) ?_
    simp only [Act.put, List.setIfInBounds_toArray, List.set_cons_succ, List.set_cons_zero]
    refine wpAnyY_one (i := 1) rfl (by kernel_rfl) (fun Kc hKc => ?_)
    refine step_fn rfl 13 _ _ rfl Try.f13 Try.func13 (by kernel_rfl) (by kernel_rfl) #[] (by simp) (list_calls _) ?_
    rintro e w1 ⟨lg, rfl, hlg, hb1⟩
    have HB1 : Hid (D5 w #[.int .i64 x.letters, .slice da dn dc, .slice sa sn sc, .int .i64 x.beg, .int .i64 x.fin, .int .i64 x.front, .int .i64 x.back, .bool x.banded, .int .i64 x.lo, .int .i64 x.hi, .slice ta tn tc] w1 ∧ w1.heap[lg]? = some (.cells fnsV 45 (0, 0))) := ⟨HB0d.out.next hb1 HB0d.out.sz, hlg⟩
    clear hb1 hlg
    refine ⟨_, rfl, hKc.out _ _ (fun _ _ => HS.out _ HB1.out.1) ?_⟩
    clear hKc Kc
    simp only [Act.put, List.setIfInBounds_toArray]
    have hl0 : w1.cell? ⟨lg, 0, none⟩ = some (.func (.func 18) #[] #[]) := blk HB1.out.2 rfl
    refine wpAnyY_one (i := 2) rfl (by kernel_rfl) (fun Kc hKc => ?_)
    go_simp
    refine hKc.out _ _ (fun _ h => h) ?_
    clear hKc Kc
    refine wpAnyY_one (i := 3) rfl (by kernel_rfl) (fun Kc hKc => ?_)
    go_simp
    refine hKc.out _ _ (fun _ h => h) ?_
    clear hKc Kc
    have HB2 : Hid (D5 w #[.int .i64 x.letters, .slice da dn dc, .slice sa sn sc, .int .i64 x.beg, .int .i64 x.fin, .int .i64 x.front, .int .i64 x.back, .bool x.banded, .int .i64 x.lo, .int .i64 x.hi, .slice ta tn tc] (w1.alloc (.cells #[.func (.func 18) #[] #[]] 45))) := HB1.out.1.next ((Below.refl _ _).alloc (Nat.le_refl _) _) HB1.out.1.sz
    refine wpAnyY_one (i := 4) rfl (by kernel_rfl) (fun Kc hKc => ?_)
    go_simp
    refine hKc.out _ _ (fun _ _ => HS.out _ HB2.out) ?_
    clear hKc Kc
    refine wpAnyY_one (i := 5) rfl (by kernel_rfl) (fun Kc hKc => ?_)
    refine step_fn rfl 12 _ _ rfl Try.f12 Try.func12 (by kernel_rfl) (by kernel_rfl) #[.agg #[.int .i64 x.letters, .slice da dn dc, .slice sa sn sc, .int .i64 x.beg, .int .i64 x.fin, .int .i64 x.front, .int .i64 x.back, .bool x.banded, .int .i64 x.lo, .int .i64 x.hi, .slice ta tn tc], .slice (some ⟨w1.heap.size, 0, none⟩) 1 1] (by simp [Act.eval]) (HD.out (w1.alloc (.cells #[.func (.func 18) #[] #[]] 45)) w1.heap.size HB2.out.low (blk (heap_alloc_new w1 _) rfl)) ?_
    intro e w2 hpp
    simp only [PassPost, if_true] at hpp
    obtain ⟨da2, dc2, sa2, sc2, ta2, tc2, rfl, hb2, ho2⟩ := hpp
    have HB3 : Hid (D5 w #[.int .i64 x.letters, .slice da dn dc, .slice sa sn sc, .int .i64 x.beg, .int .i64 x.fin, .int .i64 x.front, .int .i64 x.back, .bool x.banded, .int .i64 x.lo, .int .i64 x.hi, .slice ta tn tc] w2 ∧ RcO w2 (w1.alloc (.cells #[.func (.func 18) #[] #[]] 45)).heap.size x2 da2 dc2 sa2 sc2 ta2 tc2 ∧ w.heap.size ≤ (w1.alloc (.cells #[.func (.func 18) #[] #[]] 45)).heap.size) := ⟨HB2.out.next hb2 HB2.out.sz, ho2, HB2.out.low.size⟩
    clear hb2 ho2
    unfold rcCells
    refine ⟨_, rfl, hKc.out _ _ (fun _ _ => HS.out _ HB3.out.1) ?_⟩
    clear hKc Kc
    simp only [Act.put]
    refine wpAnyY_pure (i := 6) 10 (v := .agg #[.int .i64 x2.letters, .slice da2 x2.defs.length dc2, .slice sa2 x2.subst.length sc2, .int .i64 x2.beg, .int .i64 x2.fin, .int .i64 x2.front, .int .i64 x2.back, .bool x2.banded, .int .i64 x2.lo, .int .i64 x2.hi, .slice ta2 x2.states.length tc2]) rfl rfl (by kernel_rfl) (by kernel_rfl) (by kernel_rfl) (fun _ _ _ h => h) (Or.inl ⟨by rfl, by (intro W _; go_simp)⟩) ?_
    simp only [Act.put]
    refine wpAnyY_pure (i := 7) 11 (v := .int .i64 0) rfl rfl (by kernel_rfl) (by kernel_rfl) (by kernel_rfl) (fun _ _ _ h => h) (Or.inl ⟨by rfl, by (intro W _; go_simp)⟩) ?_
    simp only [Act.put]
    have r0 : w2.cell? ⟨w.heap.size + 1, 0, none⟩ = some (.int .i64 0) := blk HB3.out.1.res rfl
    have r1 : w2.cell? ⟨w.heap.size + 1, 1, none⟩ = some (.slice none 0 0) := blk HB3.out.1.res rfl
    have r2 : w2.cell? ⟨w.heap.size + 1, 2, none⟩ = some (.slice none 0 0) := blk HB3.out.1.res rfl
    have r3 : w2.cell? ⟨w.heap.size + 1, 3, none⟩ = some (.int .i64 0) := blk HB3.out.1.res rfl
    have r4 : w2.cell? ⟨w.heap.size + 1, 4, none⟩ = some (.int .i64 0) := blk HB3.out.1.res rfl
    have r5 : w2.cell? ⟨w.heap.size + 1, 5, none⟩ = some (.int .i64 0) := blk HB3.out.1.res rfl
    have r6 : w2.cell? ⟨w.heap.size + 1, 6, none⟩ = some (.int .i64 0) := blk HB3.out.1.res rfl
    have r7 : w2.cell? ⟨w.heap.size + 1, 7, none⟩ = some (.bool false) := blk HB3.out.1.res rfl
    have r8 : w2.cell? ⟨w.heap.size + 1, 8, none⟩ = some (.int .i64 0) := blk HB3.out.1.res rfl
    have r9 : w2.cell? ⟨w.heap.size + 1, 9, none⟩ = some (.int .i64 0) := blk HB3.out.1.res rfl
    have r10 : w2.cell? ⟨w.heap.size + 1, 10, none⟩ = some (.slice none 0 0) := blk HB3.out.1.res rfl
    have rf : ∀ i, w2.frozen? ⟨w.heap.size + 1, i, none⟩ = false := fun i => frozen_of_row w2 _ i _ _ HB3.out.1.res
    refine wpAnyY_one (i := 8) rfl (by kernel_rfl) (fun Kc hKc => ?_)
    go_simp
    refine hKc.out _ _ (fun h => absurd h (by decide)) ?_
    clear hKc Kc
    refine wpAnyY_one (i := 9) rfl (by kernel_rfl) (fun Kc hKc => ?_)
    go_simp
    refine hKc.out _ _ (fun _ h => h) ?_
    clear hKc Kc
    refine wpAnyY_done (by kernel_rfl) ?_ _
    go_wp2
    refine bodyPost_ret (v := .tuple #[.agg #[.int .i64 x2.letters, .slice da2 x2.defs.length dc2, .slice sa2 x2.subst.length sc2, .int .i64 x2.beg, .int .i64 x2.fin, .int .i64 x2.front, .int .i64 x2.back, .bool x2.banded, .int .i64 x2.lo, .int .i64 x2.hi, .slice ta2 x2.states.length tc2], .int .i64 0]) ?_ rfl ?_
    · simp only [results, hres]
      go_simp
    · refine ⟨da2, dc2, sa2, sc2, ta2, tc2, rfl, below_r HB3.out.1.low _ _ _ _ _ _ _ _ _ _ _, ?_⟩
      have hr := HB3.out.2.1
      exact (RcO.mk (owned_base hr.defs HB3.out.2.2) (owned_base hr.subst HB3.out.2.2) (hr.states.base' HB3.out.2.2)).by HB3.out.1.res (grown_r _ _ _ _ _ _ _ _ _ _ _)
set_option maxRecDepth 20000 in
set_option maxHeartbeats 8000000 in
theorem dropF_any (hok : PassOk drpP ∨ rightR x = false) (da : Option Addr) (dn dc : Nat) (sa : Option Addr) (sn sc : Nat) (ta : Option Addr) (tn tc : Nat) (w : World) (h : RcAt w x da dn sa sn ta tn) :
    Calls Try.prog 7 #[.agg (rcCells x da dn dc sa sn sc ta tn tc)] w fun e w' => PassPost (rightR x) (drpP.2 x (valsB x.defs).1).1 w e w' := by
  have hres : Try.f7.results = #[.cell 2 26, .tmp 3] := by kernel_rfl
  have HB0 : Hid (D5 w (rcCells x da dn dc sa sn sc ta tn tc) ((w.alloc (.cells (rcCells x da dn dc sa sn sc ta tn tc) 26)).alloc (.cells #[.int .i64 0, .slice none 0 0, .slice none 0 0, .int .i64 0, .int .i64 0, .int .i64 0, .int .i64 0, .bool false, .int .i64 0, .int .i64 0, .slice none 0 0] 26))) := D5.start _ _
  have HD : Hid (∀ (W : World) (pg : Nat), Below w.heap.size w W → W.cell? ⟨pg, 0, none⟩ = some (fnV drpP) → Calls Try.prog 12 #[.agg (rcCells x da dn dc sa sn sc ta tn tc), .slice (some ⟨pg, 0, none⟩) 1 1] W fun e w' => PassPost (rightR x) (drpP.2 x (valsB x.defs).1).1 W e w') := fun W pg hW hc => by
    rcases hok with hok | hok
    · exact done_calls [drpP] x da dn dc sa sn sc ta tn tc pg 1 1 W (h.below hW) rfl (by omega) (fun p hp => by obtain rfl := List.mem_singleton.1 hp; exact hok) (fun k p hk => by
        match k, hk with
        | 0, hk => cases hk; exact hc
        | k + 1, hk => simp at hk)
    · rw [hok]; exact done_bad x da dn dc sa sn sc ta tn tc pg 1 1 W (h.below hW) hok _
  clear h hok
  obtain ⟨x2, hx2⟩ : ∃ x2, (drpP.2 x (valsB x.defs).1).1 = x2 := ⟨_, rfl⟩
  obtain ⟨ok, hok⟩ : ∃ ok, rightR x = ok := ⟨_, rfl⟩
  rw [hx2, hok] at HD
  rw [hx2, hok]
  clear hx2 hok
  unfold rcCells at HB0 HD ⊢
  go_enter Try.func7, Try.ntmps7
  go_wp2_with fail
  obtain ⟨W0, hW0⟩ : ∃ W0, W0 = (w.alloc (.cells #[.int .i64 x.letters, .slice da dn dc, .slice sa sn sc, .int .i64 x.beg, .int .i64 x.fin, .int .i64 x.front, .int .i64 x.back, .bool x.banded, .int .i64 x.lo, .int .i64 x.hi, .slice ta tn tc] 26)).alloc (.cells #[.int .i64 0, .slice none 0 0, .slice none 0 0, .int .i64 0, .int .i64 0, .int .i64 0, .int .i64 0, .bool false, .int .i64 0, .int .i64 0, .slice none 0 0] 26) := ⟨_, rfl⟩
  rw [← hW0] at HB0 ⊢
  clear hW0
  have HS : Hid (∀ W, D5 w #[.int .i64 x.letters, .slice da dn dc, .slice sa sn sc, .int .i64 x.beg, .int .i64 x.fin, .int .i64 x.front, .int .i64 x.back, .bool x.banded, .int .i64 x.lo, .int .i64 x.hi, .slice ta tn tc] W → W.cell? ⟨w.heap.size, 0, none⟩ = some (.int .i64 x.letters) ∧ W.cell? ⟨w.heap.size, 1, none⟩ = some (.slice da dn dc) ∧ W.cell? ⟨w.heap.size, 2, none⟩ = some (.slice sa sn sc) ∧ W.cell? ⟨w.heap.size, 3, none⟩ = some (.int .i64 x.beg) ∧ W.cell? ⟨w.heap.size, 4, none⟩ = some (.int .i64 x.fin) ∧ W.cell? ⟨w.heap.size, 5, none⟩ = some (.int .i64 x.front) ∧ W.cell? ⟨w.heap.size, 6, none⟩ = some (.int .i64 x.back) ∧ W.cell? ⟨w.heap.size, 7, none⟩ = some (.bool x.banded) ∧ W.cell? ⟨w.heap.size, 8, none⟩ = some (.int .i64 x.lo) ∧ W.cell? ⟨w.heap.size, 9, none⟩ = some (.int .i64 x.hi) ∧ W.cell? ⟨w.heap.size, 10, none⟩ = some (.slice ta tn tc)) := fun W hW => ⟨blk hW.box rfl, blk hW.box rfl, blk hW.box rfl, blk hW.box rfl, blk hW.box rfl, blk hW.box rfl, blk hW.box rfl, blk hW.box rfl, blk hW.box rfl, blk hW.box rfl, blk hW.box rfl⟩
  have HB0d : Hid (D5 w #[.int .i64 x.letters, .slice da dn dc, .slice sa sn sc, .int .i64 x.beg, .int .i64 x.fin, .int .i64 x.front, .int .i64 x.back, .bool x.banded, .int .i64 x.lo, .int .i64 x.hi, .slice ta tn tc] W0.drew) := HB0.out.next (Below.refl _ _).drew HB0.out.sz
  have hs0 := HS.out _ HB0d.out
  cases ok with
  | false =>
    refine wp_region_Y (fun j => [8].contains j) (fun W : World => W.cell? ⟨w.heap.size, 0, none⟩ = some (.int .i64 x.letters) ∧ W.cell? ⟨w.heap.size, 1, none⟩ = some (.slice da dn dc) ∧ W.cell? ⟨w.heap.size, 2, none⟩ = some (.slice sa sn sc) ∧ W.cell? ⟨w.heap.size, 3, none⟩ = some (.int .i64 x.beg) ∧ W.cell? ⟨w.heap.size, 4, none⟩ = some (.int .i64 x.fin) ∧ W.cell? ⟨w.heap.size, 5, none⟩ = some (.int .i64 x.front) ∧ W.cell? ⟨w.heap.size, 6, none⟩ = some (.int .i64 x.back) ∧ W.cell? ⟨w.heap.size, 7, none⟩ = some (.bool x.banded) ∧ W.cell? ⟨w.heap.size, 8, none⟩ = some (.int .i64 x.lo) ∧ W.cell? ⟨w.heap.size, 9, none⟩ = some (.int .i64 x.hi) ∧ W.cell? ⟨w.heap.size, 10, none⟩ = some (.slice ta tn tc)) (by kernel_rfl) ?_
    refine wpAnyY_takeD (i := 0) 4 (v := .agg #[.int .i64 x.letters, .slice da dn dc, .slice sa sn sc, .int .i64 x.beg, .int .i64 x.fin, .int .i64 x.front, .int .i64 x.back, .bool x.banded, .int .i64 x.lo, .int .i64 x.hi, .slice ta tn tc]) rfl rfl (by kernel_rfl) (by kernel_rfl) (late_of (by kernel_rfl)) (by kernel_rfl) (by kernel_rfl) (fun _ _ _ h => h) hs0 (Or.inl ⟨by rfl, by (intro W hW; obtain ⟨s0, s1, s2, s3, s4, s5, s6, s7, s8, s9, s10⟩ := hW; go_simp)⟩) ?_
    simp only [Act.put, List.setIfInBounds_toArray, List.set_cons_succ, List.set_cons_zero]
    refine wpAnyY_one (i := 1) rfl (by kernel_rfl) (fun Kc hKc => ?_)
    refine step_fn rfl 13 _ _ rfl Try.f13 Try.func13 (by kernel_rfl) (by kernel_rfl) #[] (by simp) (list_calls _) ?_
    rintro e w1 ⟨lg, rfl, hlg, hb1⟩
    have HB1 : Hid (D5 w #[.int .i64 x.letters, .slice da dn dc, .slice sa sn sc, .int .i64 x.beg, .int .i64 x.fin, .int .i64 x.front, .int .i64 x.back, .bool x.banded, .int .i64 x.lo, .int .i64 x.hi, .slice ta tn tc] w1 ∧ w1.heap[lg]? = some (.cells fnsV 45 (0, 0))) := ⟨HB0d.out.next hb1 HB0d.out.sz, hlg⟩
    clear hb1 hlg
    refine ⟨_, rfl, hKc.out _ _ (fun _ _ => HS.out _ HB1.out.1) ?_⟩
    clear hKc Kc
    simp only [Act.put, List.setIfInBounds_toArray]
    have hl0 : w1.cell? ⟨lg, 2, none⟩ = some (.func (.func 20) #[] #[]) := blk HB1.out.2 rfl
    refine wpAnyY_one (i := 2) rfl (by kernel_rfl) (fun Kc hKc => ?_)
    go_simp
    refine hKc.out _ _ (fun _ h => h) ?_
    clear hKc Kc
    refine wpAnyY_one (i := 3) rfl (by kernel_rfl) (fun Kc hKc => ?_)
    go_simp
    refine hKc.out _ _ (fun _ h => h) ?_
    clear hKc Kc
    have HB2 : Hid (D5 w #[.int .i64 x.letters, .slice da dn dc, .slice sa sn sc, .int .i64 x.beg, .int .i64 x.fin, .int .i64 x.front, .int .i64 x.back, .bool x.banded, .int .i64 x.lo, .int .i64 x.hi, .slice ta tn tc] (w1.alloc (.cells #[.func (.func 20) #[] #[]] 45))) := HB1.out.1.next ((Below.refl _ _).alloc (Nat.le_refl _) _) HB1.out.1.sz
    refine wpAnyY_one (i := 4) rfl (by kernel_rfl) (fun Kc hKc => ?_)
    go_simp
    refine hKc.out _ _ (fun _ _ => HS.out _ HB2.out) ?_
    clear hKc Kc
    refine wpAnyY_one (i := 5) rfl (by kernel_rfl) (fun Kc hKc => ?_)
    refine step_fn rfl 12 _ _ rfl Try.f12 Try.func12 (by kernel_rfl) (by kernel_rfl) #[.agg #[.int .i64 x.letters, .slice da dn dc, .slice sa sn sc, .int .i64 x.beg, .int .i64 x.fin, .int .i64 x.front, .int .i64 x.back, .bool x.banded, .int .i64 x.lo, .int .i64 x.hi, .slice ta tn tc], .slice (some ⟨w1.heap.size, 0, none⟩) 1 1] (by simp [Act.eval]) (HD.out (w1.alloc (.cells #[.func (.func 20) #[] #[]] 45)) w1.heap.size HB2.out.low (blk (heap_alloc_new w1 _) rfl)) ?_
    intro e w2 hpp
    simp only [PassPost, Bool.false_eq_true, if_false] at hpp
    obtain ⟨rfl, hb2⟩ := hpp
    have HB3 : Hid (D5 w #[.int .i64 x.letters, .slice da dn dc, .slice sa sn sc, .int .i64 x.beg, .int .i64 x.fin, .int .i64 x.front, .int .i64 x.back, .bool x.banded, .int .i64 x.lo, .int .i64 x.hi, .slice ta tn tc] w2 ∧ True) := ⟨HB2.out.next hb2 HB2.out.sz, trivial⟩
    clear hb2
    unfold zeroR
    refine ⟨_, rfl, hKc.out _ _ (fun _ _ => HS.out _ HB3.out.1) ?_⟩
    clear hKc Kc
    simp only [Act.put]
    refine wpAnyY_pure (i := 6) 10 (v := .agg #[.int .i64 0, .slice none 0 0, .slice none 0 0, .int .i64 0, .int .i64 0, .int .i64 0, .int .i64 0, .bool false, .int .i64 0, .int .i64 0, .slice none 0 0]) rfl rfl (by kernel_rfl) (by kernel_rfl) (by kernel_rfl) (fun _ _ _ h => h) (Or.inl ⟨by rfl, by (intro W _; go_simp)⟩) ?_
    simp only [Act.put]
    refine wpAnyY_pure (i := 7) 11 (v := .int .i64 120) rfl rfl (by kernel_rfl) (by kernel_rfl) (by kernel_rfl) (fun _ _ _ h => h) (Or.inl ⟨by rfl, by (intro W _; go_simp)⟩) ?_
    simp only [Act.put]
    have r0 : w2.cell? ⟨w.heap.size + 1, 0, none⟩ = some (.int .i64 0) := blk HB3.out.1.res rfl
    have r1 : w2.cell? ⟨w.heap.size + 1, 1, none⟩ = some (.slice none 0 0) := blk HB3.out.1.res rfl
    have r2 : w2.cell? ⟨w.heap.size + 1, 2, none⟩ = some (.slice none 0 0) := blk HB3.out.1.res rfl
    have r3 : w2.cell? ⟨w.heap.size + 1, 3, none⟩ = some (.int .i64 0) := blk HB3.out.1.res rfl
    have r4 : w2.cell? ⟨w.heap.size + 1, 4, none⟩ = some (.int .i64 0) := blk HB3.out.1.res rfl
    have r5 : w2.cell? ⟨w.heap.size + 1, 5, none⟩ = some (.int .i64 0) := blk HB3.out.1.res rfl
    have r6 : w2.cell? ⟨w.heap.size + 1, 6, none⟩ = some (.int .i64 0) := blk HB3.out.1.res rfl
    have r7 : w2.cell? ⟨w.heap.size + 1, 7, none⟩ = some (.bool false) := blk HB3.out.1.res rfl
    have r8 : w2.cell? ⟨w.heap.size + 1, 8, none⟩ = some (.int .i64 0) := blk HB3.out.1.res rfl
    have r9 : w2.cell? ⟨w.heap.size + 1, 9, none⟩ = some (.int .i64 0) := blk HB3.out.1.res rfl
    have r10 : w2.cell? ⟨w.heap.size + 1, 10, none⟩ = some (.slice none 0 0) := blk HB3.out.1.res rfl
    have rf : ∀ i, w2.frozen? ⟨w.heap.size + 1, i, none⟩ = false := fun i => frozen_of_row w2 _ i _ _ HB3.out.1.res
    refine wpAnyY_one (i := 8) rfl (by kernel_rfl) (fun Kc hKc => ?_)
    go_simp
    refine hKc.out _ _ (fun h => absurd h (by decide)) ?_
    clear hKc Kc
    refine wpAnyY_one (i := 9) rfl (by kernel_rfl) (fun Kc hKc => ?_)
    go_simp
    refine hKc.out _ _ (fun _ h => h) ?_
    clear hKc Kc
    refine wpAnyY_done (by kernel_rfl) ?_ _
    go_wp2
    refine bodyPost_ret (v := .tuple #[.agg #[.int .i64 0, .slice none 0 0, .slice none 0 0, .int .i64 0, .int .i64 0, .int .i64 0, .int .i64 0, .bool false, .int .i64 0, .int .i64 0, .slice none 0 0], .int .i64 120]) ?_ rfl ?_
    · simp only [results, hres]
      go_simp
    · refine ⟨rfl, ?_⟩
      exact below_r HB3.out.1.low _ _ _ _ _ _ _ _ _ _ _
  | true =>
    refine wp_region_Y (fun j => [8].contains j) (fun W : World => W.cell? ⟨w.heap.size, 0, none⟩ = some (.int .i64 x.letters) ∧ W.cell? ⟨w.heap.size, 1, none⟩ = some (.slice da dn dc) ∧ W.cell? ⟨w.heap.size, 2, none⟩ = some (.slice sa sn sc) ∧ W.cell? ⟨w.heap.size, 3, none⟩ = some (.int .i64 x.beg) ∧ W.cell? ⟨w.heap.size, 4, none⟩ = some (.int .i64 x.fin) ∧ W.cell? ⟨w.heap.size, 5, none⟩ = some (.int .i64 x.front) ∧ W.cell? ⟨w.heap.size, 6, none⟩ = some (.int .i64 x.back) ∧ W.cell? ⟨w.heap.size, 7, none⟩ = some (.bool x.banded) ∧ W.cell? ⟨w.heap.size, 8, none⟩ = some (.int .i64 x.lo) ∧ W.cell? ⟨w.heap.size, 9, none⟩ = some (.int .i64 x.hi) ∧ W.cell? ⟨w.heap.size, 10, none⟩ = some (.slice ta tn tc)) (by kernel_rfl) ?_
    refine wpAnyY_takeD (i := 0) 4 (v := .agg #[.int .i64 x.letters, .slice da dn dc, .slice sa sn sc, .int .i64 x.beg, .int .i64 x.fin, .int .i64 x.front, .int .i64 x.back, .bool x.banded, .int .i64 x.lo, .int .i64 x.hi, .slice ta tn tc]) rfl rfl (by kernel_rfl) (by kernel_rfl) (late_of (by kernel_rfl)) (by kernel_rfl) (by kernel_rfl) (fun _ _ _ h => h) hs0 (Or.inl ⟨by rfl, by (intro W hW; obtain ⟨s0, s1, s2, s3, s4, s5, s6, s7, s8, s9, s10⟩ := hW; go_simp)⟩) ?_
    simp only [Act.put, List.setIfInBounds_toArray, List.set_cons_succ, List.set_cons_zero]
    refine wpAnyY_one (i := 1) rfl (by kernel_rfl) (fun Kc hKc => ?_)
    refine step_fn rfl 13 _ _ rfl Try.f13 Try.func13 (by kernel_rfl) (by kernel_rfl) #[] (by simp) (list_calls _) ?_
    rintro e w1 ⟨lg, rfl, hlg, hb1⟩
    have HB1 : Hid (D5 w #[.int .i64 x.letters, .slice da dn dc, .slice sa sn sc, .int .i64 x.beg, .int .i64 x.fin, .int .i64 x.front, .int .i64 x.back, .bool x.banded, .int .i64 x.lo, .int .i64 x.hi, .slice ta tn tc] w1 ∧ w1.heap[lg]? = some (.cells fnsV 45 (0, 0))) := ⟨HB0d.out.next hb1 HB0d.out.sz, hlg⟩
    clear hb1 hlg
    refine ⟨_, rfl, hKc.out _ _ (fun _ _ => HS.out _ HB1.out.1) ?_⟩
    clear hKc Kc
    simp only [Act.put, List.setIfInBounds_toArray]
    have hl0 : w1.cell? ⟨lg, 2, none⟩ = some (.func (.func 20) #[] #[]) := blk HB1.out.2 rfl
    refine wpAnyY_one (i := 2) rfl (by kernel_rfl) (fun Kc hKc => ?_)
    go_simp
    refine hKc.out _ _ (fun _ h => h) ?_
    clear hKc Kc
    refine wpAnyY_one (i := 3) rfl (by kernel_rfl) (fun Kc hKc => ?_)
    go_simp
    refine hKc.out _ _ (fun _ h => h) ?_
    clear hKc Kc
    have HB2 : Hid (D5 w #[.int .i64 x.letters, .slice da dn dc, .slice sa sn sc, .int .i64 x.beg, .int .i64 x.fin, .int .i64 x.front, .int .i64 x.back, .bool x.banded, .int .i64 x.lo, .int .i64 x.hi, .slice ta tn tc] (w1.alloc (.cells #[.func (.func 20) #[] #[]] 45))) := HB1.out.1.next ((Below.refl _ _).alloc (Nat.le_refl _) _) HB1.out.1.sz
    refine wpAnyY_one (i := 4) rfl (by kernel_rfl) (fun Kc hKc => ?_)
    go_simp
    refine hKc.out _ _ (fun _ _ => HS.out _ HB2.out) ?_
    clear hKc Kc
    refine wpAnyY_one (i := 5) rfl (by kernel_rfl) (fun Kc hKc => ?_)
    refine step_fn rfl 12 _ _ rfl Try.f12 Try.func12 (by kernel_rfl) (by kernel_rfl) #[.agg #[.int .i64 x.letters, .slice da dn dc, .slice sa sn sc, .int .i64 x.beg, .int .i64 x.fin, .int .i64 x.front, .int .i64 x.back, .bool x.banded, .int .i64 x.lo, .int .i64 x.hi, .slice ta tn tc], .slice (some ⟨w1.heap.size, 0, none⟩) 1 1] (by simp [Act.eval]) (HD.out (w1.alloc (.cells #[.func (.func 20) #[] #[]] 45)) w1.heap.size HB2.out.low (blk (heap_alloc_new w1 _) rfl)) ?_
    intro e w2 hpp
    simp only [PassPost, if_true] at hpp
    obtain ⟨da2, dc2, sa2, sc2, ta2, tc2, rfl, hb2, ho2⟩ := hpp
    have HB3 : Hid (D5 w #[.int .i64 x.letters, .slice da dn dc, .slice sa sn sc, .int .i64 x.beg, .int .i64 x.fin, .int .i64 x.front, .int .i64 x.back, .bool x.banded, .int .i64 x.lo, .int .i64 x.hi, .slice ta tn tc] w2 ∧ RcO w2 (w1.alloc (.cells #[.func (.func 20) #[] #[]] 45)).heap.size x2 da2 dc2 sa2 sc2 ta2 tc2 ∧ w.heap.size ≤ (w1.alloc (.cells #[.func (.func 20) #[] #[]] 45)).heap.size) := ⟨HB2.out.next hb2 HB2.out.sz, ho2, HB2.out.low.size⟩
    clear hb2 ho2
    unfold rcCells
    refine ⟨_, rfl, hKc.out _ _ (fun _ _ => HS.out _ HB3.out.1) ?_⟩
    clear hKc Kc
    simp only [Act.put]
    refine wpAnyY_pure (i := 6) 10 (v := .agg #[.int .i64 x2.letters, .slice da2 x2.defs.length dc2, .slice sa2 x2.subst.length sc2, .int .i64 x2.beg, .int .i64 x2.fin, .int .i64 x2.front, .int .i64 x2.back, .bool x2.banded, .int .i64 x2.lo, .int .i64 x2.hi, .slice ta2 x2.states.length tc2]) rfl rfl (by kernel_rfl) (by kernel_rfl) (by kernel_rfl) (fun _ _ _ h => h) (Or.inl ⟨by rfl, by (intro W _; go_simp)⟩) ?_
    simp only [Act.put]
    refine wpAnyY_pure (i := 7) 11 (v := .int .i64 0) rfl rfl (by kernel_rfl) (by kernel_rfl) (by kernel_rfl) (fun _ _ _ h => h) (Or.inl ⟨by rfl, by (intro W _; go_simp)⟩) ?_
    simp only [Act.put]
    have r0 : w2.cell? ⟨w.heap.size + 1, 0, none⟩ = some (.int .i64 0) := blk HB3.out.1.res rfl
    have r1 : w2.cell? ⟨w.heap.size + 1, 1, none⟩ = some (.slice none 0 0) := blk HB3.out.1.res rfl
    have r2 : w2.cell? ⟨w.heap.size + 1, 2, none⟩ = some (.slice none 0 0) := blk HB3.out.1.res rfl
    have r3 : w2.cell? ⟨w.heap.size + 1, 3, none⟩ = some (.int .i64 0) := blk HB3.out.1.res rfl
    have r4 : w2.cell? ⟨w.heap.size + 1, 4, none⟩ = some (.int .i64 0) := blk HB3.out.1.res rfl
    have r5 : w2.cell? ⟨w.heap.size + 1, 5, none⟩ = some (.int .i64 0) := blk HB3.out.1.res rfl
    have r6 : w2.cell? ⟨w.heap.size + 1, 6, none⟩ = some (.int .i64 0) := blk HB3.out.1.res rfl
    have r7 : w2.cell? ⟨w.heap.size + 1, 7, none⟩ = some (.bool false) := blk HB3.out.1.res rfl
    have r8 : w2.cell? ⟨w.heap.size + 1, 8, none⟩ = some (.int .i64 0) := blk HB3.out.1.res rfl
    have r9 : w2.cell? ⟨w.heap.size + 1, 9, none⟩ = some (.int .i64 0) := blk HB3.out.1.res rfl
    have r10 : w2.cell? ⟨w.heap.size + 1, 10, none⟩ = some (.slice none 0 0) := blk HB3.out.1.res rfl
    have rf : ∀ i, w2.frozen? ⟨w.heap.size + 1, i, none⟩ = false := fun i => frozen_of_row w2 _ i _ _ HB3.out.1.res
    refine wpAnyY_one (i := 8) rfl (by kernel_rfl) (fun Kc hKc => ?_)
    go_simp
    refine hKc.out _ _ (fun h => absurd h (by decide)) ?_
    clear hKc Kc
    refine wpAnyY_one (i := 9) rfl (by kernel_rfl) (fun Kc hKc => ?_)
    go_simp
    refine hKc.out _ _ (fun _ h => h) ?_
    clear hKc Kc
    refine wpAnyY_done (by kernel_rfl) ?_ _
    go_wp2
    refine bodyPost_ret (v := .tuple #[.agg #[.int .i64 x2.letters, .slice da2 x2.defs.length dc2, .slice sa2 x2.subst.length sc2, .int .i64 x2.beg, .int .i64 x2.fin, .int .i64 x2.front, .int .i64 x2.back, .bool x2.banded, .int .i64 x2.lo, .int .i64 x2.hi, .slice ta2 x2.states.length tc2], .int .i64 0]) ?_ rfl ?_
    · simp only [results, hres]
      go_simp
    · refine ⟨da2, dc2, sa2, sc2, ta2, tc2, rfl, below_r HB3.out.1.low _ _ _ _ _ _ _ _ _ _ _, ?_⟩
      have hr := HB3.out.2.1
      exact (RcO.mk (owned_base hr.defs HB3.out.2.2) (owned_base hr.subst HB3.out.2.2) (hr.states.base' HB3.out.2.2)).by HB3.out.1.res (grown_r _ _ _ _ _ _ _ _ _ _ _)
set_option maxRecDepth 20000 in
set_option maxHeartbeats 8000000 in
theorem clampF_any (hok : PassOk clampP ∨ rightR x = false) (da : Option Addr) (dn dc : Nat) (sa : Option Addr) (sn sc : Nat) (ta : Option Addr) (tn tc : Nat) (w : World) (h : RcAt w x da dn sa sn ta tn) :
    Calls Try.prog 8 #[.agg (rcCells x da dn dc sa sn sc ta tn tc)] w fun e w' => PassPost (rightR x) (clampP.2 x (valsB x.defs).1).1 w e w' := by
  have hres : Try.f8.results = #[.cell 2 26, .tmp 3] := by kernel_rfl
  have HB0 : Hid (D5 w (rcCells x da dn dc sa sn sc ta tn tc) ((w.alloc (.cells (rcCells x da dn dc sa sn sc ta tn tc) 26)).alloc (.cells #[.int .i64 0, .slice none 0 0, .slice none 0 0, .int .i64 0, .int .i64 0, .int .i64 0, .int .i64 0, .bool false, .int .i64 0, .int .i64 0, .slice none 0 0] 26))) := D5.start _ _
  have HD : Hid (∀ (W : World) (pg : Nat), Below w.heap.size w W → W.cell? ⟨pg, 0, none⟩ = some (fnV clampP) → Calls Try.prog 12 #[.agg (rcCells x da dn dc sa sn sc ta tn tc), .slice (some ⟨pg, 0, none⟩) 1 1] W fun e w' => PassPost (rightR x) (clampP.2 x (valsB x.defs).1).1 W e w') := fun W pg hW hc => by
    rcases hok with hok | hok
    · exact done_calls [clampP] x da dn dc sa sn sc ta tn tc pg 1 1 W (h.below hW) rfl (by omega) (fun p hp => by obtain rfl := List.mem_singleton.1 hp; exact hok) (fun k p hk => by
        match k, hk with
        | 0, hk => cases hk; exact hc
        | k + 1, hk => simp at hk)
    · rw [hok]; exact done_bad x da dn dc sa sn sc ta tn tc pg 1 1 W (h.below hW) hok _
  clear h hok
  obtain ⟨x2, hx2⟩ : ∃ x2, (clampP.2 x (valsB x.defs).1).1 = x2 := ⟨_, rfl⟩
  obtain ⟨ok, hok⟩ : ∃ ok, rightR x = ok := ⟨_, rfl⟩
  rw [hx2, hok] at HD
  rw [hx2, hok]
  clear hx2 hok
  unfold rcCells at HB0 HD ⊢
  go_enter Try.func8, Try.ntmps8
  go_wp2_with fail
  obtain ⟨W0, hW0⟩ : ∃ W0, W0 = (w.alloc (.cells #[.int .i64 x.letters, .slice da dn dc, .slice sa sn sc, .int .i64 x.beg, .int .i64 x.fin, .int .i64 x.front, .int .i64 x.back, .bool x.banded, .int .i64 x.lo, .int .i64 x.hi, .slice ta tn tc] 26)).alloc (.cells #[.int .i64 0, .slice none 0 0, .slice none 0 0, .int .i64 0, .int .i64 0, .int .i64 0, .int .i64 0, .bool false, .int .i64 0, .int .i64 0, .slice none 0 0] 26) := ⟨_, rfl⟩
  rw [← hW0] at HB0 ⊢
  clear hW0
  have HS : Hid (∀ W, D5 w #[.int .i64 x.letters, .slice da dn dc, .slice sa sn sc, .int .i64 x.beg, .int .i64 x.fin, .int .i64 x.front, .int .i64 x.back, .bool x.banded, .int .i64 x.lo, .int .i64 x.hi, .slice ta tn tc] W → W.cell? ⟨w.heap.size, 0, none⟩ = some (.int .i64 x.letters) ∧ W.cell? ⟨w.heap.size, 1, none⟩ = some (.slice da dn dc) ∧ W.cell? ⟨w.heap.size, 2, none⟩ = some (.slice sa sn sc) ∧ W.cell? ⟨w.heap.size, 3, none⟩ = some (.int .i64 x.beg) ∧ W.cell? ⟨w.heap.size, 4, none⟩ = some (.int .i64 x.fin) ∧ W.cell? ⟨w.heap.size, 5, none⟩ = some (.int .i64 x.front) ∧ W.cell? ⟨w.heap.size, 6, none⟩ = some (.int .i64 x.back) ∧ W.cell? ⟨w.heap.size, 7, none⟩ = some (.bool x.banded) ∧ W.cell? ⟨w.heap.size, 8, none⟩ = some (.int .i64 x.lo) ∧ W.cell? ⟨w.heap.size, 9, none⟩ = some (.int .i64 x.hi) ∧ W.cell? ⟨w.heap.size, 10, none⟩ = some (.slice ta tn tc)) := fun W hW => ⟨blk hW.box rfl, blk hW.box rfl, blk hW.box rfl, blk hW.box rfl, blk hW.box rfl, blk hW.box rfl, blk hW.box rfl, blk hW.box rfl, blk hW.box rfl, blk hW.box rfl, blk hW.box rfl⟩
  have HB0d : Hid (D5 w #[.int .i64 x.letters, .slice da dn dc, .slice sa sn sc, .int .i64 x.beg, .int .i64 x.fin, .int .i64 x.front, .int .i64 x.back, .bool x.banded, .int .i64 x.lo, .int .i64 x.hi, .slice ta tn tc] W0.drew) := HB0.out.next (Below.refl _ _).drew HB0.out.sz
  have hs0 := HS.out _ HB0d.out
  cases ok with
  | false =>
    refine wp_region_Y (fun j => [8].contains j) (fun W : World => W.cell? ⟨w.heap.size, 0, none⟩ = some (.int .i64 x.letters) ∧ W.cell? ⟨w.heap.size, 1, none⟩ = some (.slice da dn dc) ∧ W.cell? ⟨w.heap.size, 2, none⟩ = some (.slice sa sn sc) ∧ W.cell? ⟨w.heap.size, 3, none⟩ = some (.int .i64 x.beg) ∧ W.cell? ⟨w.heap.size, 4, none⟩ = some (.int .i64 x.fin) ∧ W.cell? ⟨w.heap.size, 5, none⟩ = some (.int .i64 x.front) ∧ W.cell? ⟨w.heap.size, 6, none⟩ = some (.int .i64 x.back) ∧ W.cell? ⟨w.heap.size, 7, none⟩ = some (.bool x.banded) ∧ W.cell? ⟨w.heap.size, 8, none⟩ = some (.int .i64 x.lo) ∧ W.cell? ⟨w.heap.size, 9, none⟩ = some (.int .i64 x.hi) ∧ W.cell? ⟨w.heap.size, 10, none⟩ = some (.slice ta tn tc)) (by kernel_rfl) ?_
    refine wpAnyY_takeD (i := 0) 4 (v := .agg #[.int .i64 x.letters, .slice da dn dc, .slice sa sn sc, .int .i64 x.beg, .int .i64 x.fin, .int .i64 x.front, .int .i64 x.back, .bool x.banded, .int .i64 x.lo, .int .i64 x.hi, .slice ta tn tc]) rfl rfl (by kernel_rfl) (by kernel_rfl) (late_of (by kernel_rfl)) (by kernel_rfl) (by kernel_rfl) (fun _ _ _ h => h) hs0 (Or.inl ⟨by rfl, by (intro W hW; obtain ⟨s0, s1, s2, s3, s4, s5, s6, s7, s8, s9, s10⟩ := hW; go_simp)⟩) ?_
    simp only [Act.put, List.setIfInBounds_toArray, List.set_cons_succ, List.set_cons_zero]
    refine wpAnyY_one (i := 1) rfl (by kernel_rfl) (fun Kc hKc => ?_)
    refine step_fn rfl 13 _ _ rfl Try.f13 Try.func13 (by kernel_rfl) (by kernel_rfl) #[] (by simp) (list_calls _) ?_
    rintro e w1 ⟨lg, rfl, hlg, hb1⟩
    have HB1 : Hid (D5 w #[.int .i64 x.letters, .slice da dn dc, .slice sa sn sc, .int .i64 x.beg, .int .i64 x.fin, .int .i64 x.front, .int .i64 x.back, .bool x.banded, .int .i64 x.lo, .int .i64 x.hi, .slice ta tn tc] w1 ∧ w1.heap[lg]? = some (.cells fnsV 45 (0, 0))) := ⟨HB0d.out.next hb1 HB0d.out.sz, hlg⟩
    clear hb1 hlg
    refine ⟨_, rfl, hKc.out _ _ (fun _ _ => HS.out _ HB1.out.1) ?_⟩
    clear hKc Kc
    simp only [Act.put, List.setIfInBounds_toArray]
    have hl0 : w1.cell? ⟨lg, 3, none⟩ = some (.func (.func 21) #[] #[]) := blk HB1.out.2 rfl
    refine wpAnyY_one (i := 2) rfl (by kernel_rfl) (fun Kc hKc => ?_)
    go_simp
    refine hKc.out _ _ (fun _ h => h) ?_
    clear hKc Kc
    refine wpAnyY_one (i := 3) rfl (by kernel_rfl) (fun Kc hKc => ?_)
    go_simp
    refine hKc.out _ _ (fun _ h => h) ?_
    clear hKc Kc
    have HB2 : Hid (D5 w #[.int .i64 x.letters, .slice da dn dc, .slice sa sn sc, .int .i64 x.beg, .int .i64 x.fin, .int .i64 x.front, .int .i64 x.back, .bool x.banded, .int .i64 x.lo, .int .i64 x.hi, .slice ta tn tc] (w1.alloc (.cells #[.func (.func 21) #[] #[]] 45))) := HB1.out.1.next ((Below.refl _ _).alloc (Nat.le_refl _) _) HB1.out.1.sz
    refine wpAnyY_one (i := 4) rfl (by kernel_rfl) (fun Kc hKc => ?_)
    go_simp
    refine hKc.out _ _ (fun _ _ => HS.out _ HB2.out) ?_
    clear hKc Kc
    refine wpAnyY_one (i := 5) rfl (by kernel_rfl) (fun Kc hKc => ?_)
    refine step_fn rfl 12 _ _ rfl Try.f12 Try.func12 (by kernel_rfl) (by kernel_rfl) #[.agg #[.int .i64 x.letters, .slice da dn dc, .slice sa sn sc, .int .i64 x.beg, .int .i64 x.fin, .int .i64 x.front, .int .i64 x.back, .bool x.banded, .int .i64 x.lo, .int .i64 x.hi, .slice ta tn tc], .slice (some ⟨w1.heap.size, 0, none⟩) 1 1] (by simp [Act.eval]) (HD.out (w1.alloc (.cells #[.func (.func 21) #[] #[]] 45)) w1.heap.size HB2.out.low (blk (heap_alloc_new w1 _) rfl)) ?_
    intro e w2 hpp
    simp only [PassPost, Bool.false_eq_true, if_false] at hpp
    obtain ⟨rfl, hb2⟩ := hpp
    have HB3 : Hid (D5 w #[.int .i64 x.letters, .slice da dn dc, .slice sa sn sc, .int .i64 x.beg, .int .i64 x.fin, .int .i64 x.front, .int .i64 x.back, .bool x.banded, .int .i64 x.lo, .int .i64 x.hi, .slice ta tn tc] w2 ∧ True) := ⟨HB2.out.next hb2 HB2.out.sz, trivial⟩
    clear hb2
    unfold zeroR
    refine ⟨_, rfl, hKc.out _ _ (fun _ _ => HS.out _ HB3.out.1) ?_⟩
    clear hKc Kc
    simp only [Act.put]
    refine wpAnyY_pure (i := 6) 10 (v := .agg #[.int .i64 0, .slice none 0 0, .slice none 0 0, .int .i64 0, .int .i64 0, .int .i64 0, .int .i64 0, .bool false, .int .i64 0, .int .i64 0, .slice none 0 0]) rfl rfl (by kernel_rfl) (by kernel_rfl) (by kernel_rfl) (fun _ _ _ h => h) (Or.inl ⟨by rfl, by (intro W _; go_simp)⟩) ?_
    simp only [Act.put]
    refine wpAnyY_pure (i := 7) 11 (v := .int .i64 120) rfl rfl (by kernel_rfl) (by kernel_rfl) (by kernel_rfl) (fun _ _ _ h => h) (Or.inl ⟨by rfl, by (intro W _; go_simp)⟩) ?_
    simp only [Act.put]
    have r0 : w2.cell? ⟨w.heap.size + 1, 0, none⟩ = some (.int .i64 0) := blk HB3.out.1.res rfl
    have r1 : w2.cell? ⟨w.heap.size + 1, 1, none⟩ = some (.slice none 0 0) := blk HB3.out.1.res rfl
    have r2 : w2.cell? ⟨w.heap.size + 1, 2, none⟩ = some (.slice none 0 0) := blk HB3.out.1.res rfl
    have r3 : w2.cell? ⟨w.heap.size + 1, 3, none⟩ = some (.int .i64 0) := blk HB3.out.1.res rfl
    have r4 : w2.cell? ⟨w.heap.size + 1, 4, none⟩ = some (.int .i64 0) := blk HB3.out.1.res rfl
    have r5 : w2.cell? ⟨w.heap.size + 1, 5, none⟩ = some (.int .i64 0) := blk HB3.out.1.res rfl
    have r6 : w2.cell? ⟨w.heap.size + 1, 6, none⟩ = some (.int .i64 0) := blk HB3.out.1.res rfl
    have r7 : w2.cell? ⟨w.heap.size + 1, 7, none⟩ = some (.bool false) := blk HB3.out.1.res rfl
    have r8 : w2.cell? ⟨w.heap.size + 1, 8, none⟩ = some (.int .i64 0) := blk HB3.out.1.res rfl
    have r9 : w2.cell? ⟨w.heap.size + 1, 9, none⟩ = some (.int .i64 0) := blk HB3.out.1.res rfl
    have r10 : w2.cell? ⟨w.heap.size + 1, 10, none⟩ = some (.slice none 0 0) := blk HB3.out.1.res rfl
    have rf : ∀ i, w2.frozen? ⟨w.heap.size + 1, i, none⟩ = false := fun i => frozen_of_row w2 _ i _ _ HB3.out.1.res
    refine wpAnyY_one (i := 8) rfl (by kernel_rfl) (fun Kc hKc => ?_)
    go_simp
    refine hKc.out _ _ (fun h => absurd h (by decide)) ?_
    clear hKc Kc
    refine wpAnyY_one (i := 9) rfl (by kernel_rfl) (fun Kc hKc => ?_)
    go_simp
    refine hKc.out _ _ (fun _ h => h) ?_
    clear hKc Kc
    refine wpAnyY_done (by kernel_rfl) ?_ _
    go_wp2
    refine bodyPost_ret (v := .tuple #[.agg #[.int .i64 0, .slice none 0 0, .slice none 0 0, .int .i64 0, .int .i64 0, .int .i64 0, .int .i64 0, .bool false, .int .i64 0, .int .i64 0, .slice none 0 0], .int .i64 120]) ?_ rfl ?_
    · simp only [results, hres]
      go_simp
    · refine ⟨rfl, ?_⟩
      exact below_r HB3.out.1.low _ _ _ _ _ _ _ _ _ _ _
  | true =>
    refine wp_region_Y (fun j => [8].contains j) (fun W : World => W.cell? ⟨w.heap.size, 0, none⟩ = some (.int .i64 x.letters) ∧ W.cell? ⟨w.heap.size, 1, none⟩ = some (.slice da dn dc) ∧ W.cell? ⟨w.heap.size, 2, none⟩ = some (.slice sa sn sc) ∧ W.cell? ⟨w.heap.size, 3, none⟩ = some (.int .i64 x.beg) ∧ W.cell? ⟨w.heap.size, 4, none⟩ = some (.int .i64 x.fin) ∧ W.cell? ⟨w.heap.size, 5, none⟩ = some (.int .i64 x.front) ∧ W.cell? ⟨w.heap.size, 6, none⟩ = some (.int .i64 x.back) ∧ W.cell? ⟨w.heap.size, 7, none⟩ = some (.bool x.banded) ∧ W.cell? ⟨w.heap.size, 8, none⟩ = some (.int .i64 x.lo) ∧ W.cell? ⟨w.heap.size, 9, none⟩ = some (.int .i64 x.hi) ∧ W.cell? ⟨w.heap.size, 10, none⟩ = some (.slice ta tn tc)) (by kernel_rfl) ?_
    refine wpAnyY_takeD (i := 0) 4 (v := .agg #[.int .i64 x.letters, .slice da dn dc, .slice sa sn sc, .int .i64 x.beg, .int .i64 x.fin, .int .i64 x.front, .int .i64 x.back, .bool x.banded, .int .i64 x.lo, .int .i64 x.hi, .slice ta tn tc]) rfl rfl (by kernel_rfl) (by kernel_rfl) (late_of (by kernel_rfl)) (by kernel_rfl) (by kernel_rfl) (fun _ _ _ h => h) hs0 (Or.inl ⟨by rfl, by (intro W hW; obtain ⟨s0, s1, s2, s3, s4, s5, s6, s7, s8, s9, s10⟩ := hW; go_simp)⟩) ?_
    simp only [Act.put, List.setIfInBounds_toArray, List.set_cons_succ, List.set_cons_zero]
    refine wpAnyY_one (i := 1) rfl (by kernel_rfl) (fun Kc hKc => ?_)
    refine step_fn rfl 13 _ _ rfl Try.f13 Try.func13 (by kernel_rfl) (by kernel_rfl) #[] (by simp) (list_calls _) ?_
    rintro e w1 ⟨lg, rfl, hlg, hb1⟩
    have HB1 : Hid (D5 w #[.int .i64 x.letters, .slice da dn dc, .slice sa sn sc, .int .i64 x.beg, .int .i64 x.fin, .int .i64 x.front, .int .i64 x.back, .bool x.banded, .int .i64 x.lo, .int .i64 x.hi, .slice ta tn tc] w1 ∧ w1.heap[lg]? = some (.cells fnsV 45 (0, 0))) := ⟨HB0d.out.next hb1 HB0d.out.sz, hlg⟩
    clear hb1 hlg
    refine ⟨_, rfl, hKc.out _ _ (fun _ _ => HS.out _ HB1.out.1) ?_⟩
    clear hKc Kc
    simp only [Act.put, List.setIfInBounds_toArray]
    have hl0 : w1.cell? ⟨lg, 3, none⟩ = some (.func (.func 21) #[] #[]) := blk HB1.out.2 rfl
    refine wpAnyY_one (i := 2) rfl (by kernel_rfl) (fun Kc hKc => ?_)
    go_simp
    refine hKc.out _ _ (fun _ h => h) ?_
    clear hKc Kc
    refine wpAnyY_one (i := 3) rfl (by kernel_rfl) (fun Kc hKc => ?_)
    go_simp
    refine hKc.out _ _ (fun _ h => h) ?_
    clear hKc Kc
    have HB2 : Hid (D5 w #[.int .i64 x.letters, .slice da dn dc, .slice sa sn sc, .int .i64 x.beg, .int .i64 x.fin, .int .i64 x.front, .int .i64 x.back, .bool x.banded, .int .i64 x.lo, .int .i64 x.hi, .slice ta tn tc] (w1.alloc (.cells #[.func (.func 21) #[] #[]] 45))) := HB1.out.1.next ((Below.refl _ _).alloc (Nat.le_refl _) _) HB1.out.1.sz
    refine wpAnyY_one (i := 4) rfl (by kernel_rfl) (fun Kc hKc => ?_)
    go_simp
    refine hKc.out _ _ (fun _ _ => HS.out _ HB2.out) ?_
    clear hKc Kc
    refine wpAnyY_one (i := 5) rfl (by kernel_rfl) (fun Kc hKc => ?_)
    refine step_fn rfl 12 _ _ rfl Try.f12 Try.func12 (by kernel_rfl) (by kernel_rfl) #[.agg #[.int .i64 x.letters, .slice da dn dc, .slice sa sn sc, .int .i64 x.beg, .int .i64 x.fin, .int .i64 x.front, .int .i64 x.back, .bool x.banded, .int .i64 x.lo, .int .i64 x.hi, .slice ta tn tc], .slice (some ⟨w1.heap.size, 0, none⟩) 1 1] (by simp [Act.eval]) (HD.out (w1.alloc (.cells #[.func (.func 21) #[] #[]] 45)) w1.heap.size HB2.out.low (blk (heap_alloc_new w1 _) rfl)) ?_
    intro e w2 hpp
    simp only [PassPost, if_true] at hpp
    obtain ⟨da2, dc2, sa2, sc2, ta2, tc2, rfl, hb2, ho2⟩ := hpp
    have HB3 : Hid (D5 w #[.int .i64 x.letters, .slice da dn dc, .slice sa sn sc, .int .i64 x.beg, .int .i64 x.fin, .int .i64 x.front, .int .i64 x.back, .bool x.banded, .int .i64 x.lo, .int .i64 x.hi, .slice ta tn tc] w2 ∧ RcO w2 (w1.alloc (.cells #[.func (.func 21) #[] #[]] 45)).heap.size x2 da2 dc2 sa2 sc2 ta2 tc2 ∧ w.heap.size ≤ (w1.alloc (.cells #[.func (.func 21) #[] #[]] 45)).heap.size) := ⟨HB2.out.next hb2 HB2.out.sz, ho2, HB2.out.low.size⟩
    clear hb2 ho2
    unfold rcCells
    refine ⟨_, rfl, hKc.out _ _ (fun _ _ => HS.out _ HB3.out.1) ?_⟩
    clear hKc Kc
    simp only [Act.put]
    refine wpAnyY_pure (i := 6) 10 (v := .agg #[.int .i64 x2.letters, .slice da2 x2.defs.length dc2, .slice sa2 x2.subst.length sc2, .int .i64 x2.beg, .int .i64 x2.fin, .int .i64 x2.front, .int .i64 x2.back, .bool x2.banded, .int .i64 x2.lo, .int .i64 x2.hi, .slice ta2 x2.states.length tc2]) rfl rfl (by kernel_rfl) (by kernel_rfl) (by kernel_rfl) (fun _ _ _ h => h) (Or.inl ⟨by rfl, by (intro W _; go_simp)⟩) ?_
    simp only [Act.put]
    refine wpAnyY_pure (i := 7) 11 (v := .int .i64 0) rfl rfl (by kernel_rfl) (by kernel_rfl) (by kernel_rfl) (fun _ _ _ h => h) (Or.inl ⟨by rfl, by (intro W _; go_simp)⟩) ?_
    simp only [Act.put]
    have r0 : w2.cell? ⟨w.heap.size + 1, 0, none⟩ = some (.int .i64 0) := blk HB3.out.1.res rfl
    have r1 : w2.cell? ⟨w.heap.size + 1, 1, none⟩ = some (.slice none 0 0) := blk HB3.out.1.res rfl
    have r2 : w2.cell? ⟨w.heap.size + 1, 2, none⟩ = some (.slice none 0 0) := blk HB3.out.1.res rfl
    have r3 : w2.cell? ⟨w.heap.size + 1, 3, none⟩ = some (.int .i64 0) := blk HB3.out.1.res rfl
    have r4 : w2.cell? ⟨w.heap.size + 1, 4, none⟩ = some (.int .i64 0) := blk HB3.out.1.res rfl
    have r5 : w2.cell? ⟨w.heap.size + 1, 5, none⟩ = some (.int .i64 0) := blk HB3.out.1.res rfl
    have r6 : w2.cell? ⟨w.heap.size + 1, 6, none⟩ = some (.int .i64 0) := blk HB3.out.1.res rfl
    have r7 : w2.cell? ⟨w.heap.size + 1, 7, none⟩ = some (.bool false) := blk HB3.out.1.res rfl
    have r8 : w2.cell? ⟨w.heap.size + 1, 8, none⟩ = some (.int .i64 0) := blk HB3.out.1.res rfl
    have r9 : w2.cell? ⟨w.heap.size + 1, 9, none⟩ = some (.int .i64 0) := blk HB3.out.1.res rfl
    have r10 : w2.cell? ⟨w.heap.size + 1, 10, none⟩ = some (.slice none 0 0) := blk HB3.out.1.res rfl
    have rf : ∀ i, w2.frozen? ⟨w.heap.size + 1, i, none⟩ = false := fun i => frozen_of_row w2 _ i _ _ HB3.out.1.res
    refine wpAnyY_one (i := 8) rfl (by kernel_rfl) (fun Kc hKc => ?_)
    go_simp
    refine hKc.out _ _ (fun h => absurd h (by decide)) ?_
    clear hKc Kc
    refine wpAnyY_one (i := 9) rfl (by kernel_rfl) (fun Kc hKc => ?_)
    go_simp
    refine hKc.out _ _ (fun _ h => h) ?_
    clear hKc Kc
    refine wpAnyY_done (by kernel_rfl) ?_ _
    go_wp2
    refine bodyPost_ret (v := .tuple #[.agg #[.int .i64 x2.letters, .slice da2 x2.defs.length dc2, .slice sa2 x2.subst.length sc2, .int .i64 x2.beg, .int .i64 x2.fin, .int .i64 x2.front, .int .i64 x2.back, .bool x2.banded, .int .i64 x2.lo, .int .i64 x2.hi, .slice ta2 x2.states.length tc2], .int .i64 0]) ?_ rfl ?_
    · simp only [results, hres]
      go_simp
    · refine ⟨da2, dc2, sa2, sc2, ta2, tc2, rfl, below_r HB3.out.1.low _ _ _ _ _ _ _ _ _ _ _, ?_⟩
      have hr := HB3.out.2.1
      exact (RcO.mk (owned_base hr.defs HB3.out.2.2) (owned_base hr.subst HB3.out.2.2) (hr.states.base' HB3.out.2.2)).by HB3.out.1.res (grown_r _ _ _ _ _ _ _ _ _ _ _)
end
end Go.Proofs.Ytolehoibpnenlab
namespace Go.Proofs.Ytolehoibpnenlab
open Go.RowKit Go.Deep Go.Maps

def LoHi (x : Rc) (b : Bool) (lo hi : Int) : Rc := { x with banded := b, lo := lo, hi := hi }
theorem wk_band {w : World} {base wb : Nat} {x : Rc} {vs : List Int} {y : Ly} (h : WkAt w base wb x vs y) (lo hi : Int) : WkAt ((w.setCell ⟨wb, 8, none⟩ (.int .i64 lo)).setCell ⟨wb, 9, none⟩ (.int .i64 hi)) base wb { x with lo := lo, hi := hi } vs y :=
  h.store (grown_trans (grown_set _ _ _ _) (grown_set _ _ _ _)) (by rw [heap_set _ (heap_set _ h.box)]; rfl) rfl rfl rfl
theorem wk_open {w : World} {base wb : Nat} {x : Rc} {vs : List Int} {y : Ly} (h : WkAt w base wb x vs y) : WkAt (((w.setCell ⟨wb, 7, none⟩ (.bool false)).setCell ⟨wb, 8, none⟩ (.int .i64 0)).setCell ⟨wb, 9, none⟩ (.int .i64 0)) base wb { x with banded := false, lo := 0, hi := 0 } vs y :=
  h.store (grown_trans (grown_trans (grown_set _ _ _ _) (grown_set _ _ _ _)) (grown_set _ _ _ _)) (by rw [heap_set _ (heap_set _ (heap_set _ h.box))]; rfl) rfl rfl rfl
set_option maxRecDepth 20000 in
set_option maxHeartbeats 4000000 in
theorem clamp_calls (w : World) (base wb : Nat) (x : Rc) (vs : List Int) (y : Ly) (h : WkAt w base wb x vs y) :
    Calls Try.prog 21 #[.pointer (some ⟨wb, 0, none⟩)] w fun e w' => e = .returned (.tuple #[]) ∧ (∃ y', WkAt w' base wb (clampB x) vs y') ∧ Below base w w' := by
  have HW : Hid (WkAt w base wb x vs y) := h
  have c7 : w.cell? ⟨wb, 7, none⟩ = some (.bool x.banded) := h.cell 7 _ rfl
  have c8 : w.cell? ⟨wb, 8, none⟩ = some (.int .i64 x.lo) := h.cell 8 _ rfl
  have c9 : w.cell? ⟨wb, 9, none⟩ = some (.int .i64 x.hi) := h.cell 9 _ rfl
  have ff : ∀ i, w.frozen? ⟨wb, i, none⟩ = false := fun i => h.froz i
  have HF : Hid (base ≤ wb) := h.fro
  clear h
  cases hb : x.banded with
  | false =>
    rw [hb] at c7
    have HE : Hid (clampB x = x) := by show _ = _; unfold clampB; rw [hb]; rfl
    rw [HE.out]
    clear hb HE
    go_enter Try.func21, Try.ntmps21
    go_wp2
    go_end0
    exact ⟨rfl, ⟨y, HW.out⟩, Below.refl _ _⟩
  | true =>
    rw [hb] at c7
    by_cases h1 : 65536 < x.lo
    · have HE : Hid (clampB x = { x with lo := 65537, hi := 65537 }) := by show _ = _; unfold clampB; rw [hb, if_pos rfl, if_pos h1]
      rw [HE.out]
      clear HE hb
      go_enter Try.func21, Try.ntmps21
      go_wp2
      go_end0
      exact ⟨rfl, ⟨y, wk_band HW.out _ _⟩, ((Below.refl _ _).setCell HF.out _).setCell HF.out _⟩
    · by_cases h2 : x.hi < -65536
      · have HE : Hid (clampB x = { x with lo := -65537, hi := -65537 }) := by show _ = _; unfold clampB; rw [hb, if_pos rfl, if_neg h1, if_pos h2]
        rw [HE.out]
        clear HE hb
        go_enter Try.func21, Try.ntmps21
        go_wp2
        go_end0
        exact ⟨rfl, ⟨y, wk_band HW.out _ _⟩, ((Below.refl _ _).setCell HF.out _).setCell HF.out _⟩
      · have c8' : w.drew.cell? ⟨wb, 8, none⟩ = some (.int .i64 x.lo) := c8
        have c9' : w.drew.cell? ⟨wb, 9, none⟩ = some (.int .i64 x.hi) := c9
        have hs0 := And.intro c8' c9'
        have HCL : Hid (clampB x = if max x.lo (-65536) = -65536 ∧ min x.hi 65536 = 65536 then { x with banded := false, lo := 0, hi := 0 } else { x with lo := max x.lo (-65536), hi := min x.hi 65536 }) := by
          show _ = _
          unfold clampB
          rw [hb, if_pos rfl, if_neg h1, if_neg h2]
        obtain ⟨X, hX⟩ : ∃ X, clampB x = X := ⟨_, rfl⟩
        rw [hX] at HCL ⊢
        clear hX hb
        go_enter Try.func21, Try.ntmps21
        go_wp2_with fail
        refine wp_region_Y (fun j => [17, 21].contains j) (fun W : World => W.cell? ⟨wb, 8, none⟩ = some (.int .i64 x.lo) ∧ W.cell? ⟨wb, 9, none⟩ = some (.int .i64 x.hi)) (by kernel_rfl) ?_
        refine wpAnyY_pure (i := 0) 2 (v := .pointer (some ⟨wb, 0, none⟩)) rfl rfl (by kernel_rfl) (by kernel_rfl) (by kernel_rfl) (fun _ _ _ h => h) (Or.inl ⟨by rfl, by (intro W _; go_simp)⟩) ?_
        simp only [Act.put, List.setIfInBounds_toArray, List.set_cons_succ, List.set_cons_zero]
        refine wpAnyY_pure (i := 1) 3 (v := .pointer (some ⟨wb, 0, none⟩)) rfl rfl (by kernel_rfl) (by kernel_rfl) (by kernel_rfl) (fun _ _ _ h => h) (Or.inl ⟨by rfl, by (intro W _; go_simp)⟩) ?_
        simp only [Act.put, List.setIfInBounds_toArray, List.set_cons_succ, List.set_cons_zero]
        refine wpAnyY_pure (i := 2) 4 (v := .pointer (some ⟨wb, 0, none⟩)) rfl rfl (by kernel_rfl) (by kernel_rfl) (by kernel_rfl) (fun _ _ _ h => h) (Or.inl ⟨by rfl, by (intro W _; go_simp)⟩) ?_
        simp only [Act.put, List.setIfInBounds_toArray, List.set_cons_succ, List.set_cons_zero]
        refine wpAnyY_takeD (i := 3) 5 (v := .pointer (some ⟨wb, 0, none⟩)) rfl rfl (by kernel_rfl) (by kernel_rfl) (late_of (by kernel_rfl)) (by kernel_rfl) (by kernel_rfl) (fun _ _ _ h => h) hs0 (Or.inl ⟨by rfl, by (intro W hW; obtain ⟨s0, s1⟩ := hW; go_simp)⟩) ?_
        simp only [Act.put, List.setIfInBounds_toArray, List.set_cons_succ, List.set_cons_zero]
        refine wpAnyY_takeD (i := 4) 6 (v := .pointer (some ⟨wb, 0, none⟩)) rfl rfl (by kernel_rfl) (by kernel_rfl) (late_of (by kernel_rfl)) (by kernel_rfl) (by kernel_rfl) (fun _ _ _ h => h) hs0 (Or.inl ⟨by rfl, by (intro W hW; obtain ⟨s0, s1⟩ := hW; go_simp)⟩) ?_
        simp only [Act.put, List.setIfInBounds_toArray, List.set_cons_succ, List.set_cons_zero]
        refine wpAnyY_takeD (i := 5) 7 (v := .pointer (some ⟨wb, 8, none⟩)) rfl rfl (by kernel_rfl) (by kernel_rfl) (late_of (by kernel_rfl)) (by kernel_rfl) (by kernel_rfl) (fun _ _ _ h => h) hs0 (Or.inl ⟨by rfl, by (intro W hW; obtain ⟨s0, s1⟩ := hW; go_simp)⟩) ?_
        simp only [Act.put, List.setIfInBounds_toArray, List.set_cons_succ, List.set_cons_zero]
        refine wpAnyY_takeD (i := 6) 8 (v := .int .i64 x.lo) rfl rfl (by kernel_rfl) (by kernel_rfl) (late_of (by kernel_rfl)) (by kernel_rfl) (by kernel_rfl) (fun _ _ _ h => h) hs0 (Or.inl ⟨by rfl, by (intro W hW; obtain ⟨s0, s1⟩ := hW; go_simp)⟩) ?_
        simp only [Act.put, List.setIfInBounds_toArray, List.set_cons_succ, List.set_cons_zero]
        refine wpAnyY_takeD (i := 7) 9 (v := .int .i64 (max x.lo (-65536))) rfl rfl (by kernel_rfl) (by kernel_rfl) (late_of (by kernel_rfl)) (by kernel_rfl) (by kernel_rfl) (fun _ _ _ h => h) hs0 (Or.inl ⟨by rfl, by (intro W hW; obtain ⟨s0, s1⟩ := hW; go_simp)⟩) ?_
        simp only [Act.put, List.setIfInBounds_toArray, List.set_cons_succ, List.set_cons_zero]
        refine wpAnyY_pure (i := 8) 10 (v := .pointer (some ⟨wb, 0, none⟩)) rfl rfl (by kernel_rfl) (by kernel_rfl) (by kernel_rfl) (fun _ _ _ h => h) (Or.inl ⟨by rfl, by (intro W _; go_simp)⟩) ?_
        simp only [Act.put, List.setIfInBounds_toArray, List.set_cons_succ, List.set_cons_zero]
        refine wpAnyY_takeD (i := 9) 11 (v := .pointer (some ⟨wb, 0, none⟩)) rfl rfl (by kernel_rfl) (by kernel_rfl) (late_of (by kernel_rfl)) (by kernel_rfl) (by kernel_rfl) (fun _ _ _ h => h) hs0 (Or.inl ⟨by rfl, by (intro W hW; obtain ⟨s0, s1⟩ := hW; go_simp)⟩) ?_
        simp only [Act.put, List.setIfInBounds_toArray, List.set_cons_succ, List.set_cons_zero]
        refine wpAnyY_takeD (i := 10) 12 (v := .pointer (some ⟨wb, 0, none⟩)) rfl rfl (by kernel_rfl) (by kernel_rfl) (late_of (by kernel_rfl)) (by kernel_rfl) (by kernel_rfl) (fun _ _ _ h => h) hs0 (Or.inl ⟨by rfl, by (intro W hW; obtain ⟨s0, s1⟩ := hW; go_simp)⟩) ?_
        simp only [Act.put, List.setIfInBounds_toArray, List.set_cons_succ, List.set_cons_zero]
        refine wpAnyY_takeD (i := 11) 13 (v := .pointer (some ⟨wb, 9, none⟩)) rfl rfl (by kernel_rfl) (by kernel_rfl) (late_of (by kernel_rfl)) (by kernel_rfl) (by kernel_rfl) (fun _ _ _ h => h) hs0 (Or.inl ⟨by rfl, by (intro W hW; obtain ⟨s0, s1⟩ := hW; go_simp)⟩) ?_
        simp only [Act.put, List.setIfInBounds_toArray, List.set_cons_succ, List.set_cons_zero]
        refine wpAnyY_takeD (i := 12) 14 (v := .int .i64 x.hi) rfl rfl (by kernel_rfl) (by kernel_rfl) (late_of (by kernel_rfl)) (by kernel_rfl) (by kernel_rfl) (fun _ _ _ h => h) hs0 (Or.inl ⟨by rfl, by (intro W hW; obtain ⟨s0, s1⟩ := hW; go_simp)⟩) ?_
        simp only [Act.put, List.setIfInBounds_toArray, List.set_cons_succ, List.set_cons_zero]
        refine wpAnyY_pure (i := 13) 15 (v := .int .i64 (min x.hi 65536)) rfl rfl (by kernel_rfl) (by kernel_rfl) (by kernel_rfl) (fun _ _ _ h => h) (Or.inl ⟨by rfl, by (intro W _; go_simp)⟩) ?_
        simp only [Act.put, List.setIfInBounds_toArray, List.set_cons_succ, List.set_cons_zero]
        refine wpAnyY_pure (i := 14) 16 (v := .pointer (some ⟨wb, 0, none⟩)) rfl rfl (by kernel_rfl) (by kernel_rfl) (by kernel_rfl) (fun _ _ _ h => h) (Or.inl ⟨by rfl, by (intro W _; go_simp)⟩) ?_
        simp only [Act.put, List.setIfInBounds_toArray, List.set_cons_succ, List.set_cons_zero]
        refine wpAnyY_pure (i := 15) 17 (v := .pointer (some ⟨wb, 0, none⟩)) rfl rfl (by kernel_rfl) (by kernel_rfl) (by kernel_rfl) (fun _ _ _ h => h) (Or.inl ⟨by rfl, by (intro W _; go_simp)⟩) ?_
        simp only [Act.put, List.setIfInBounds_toArray, List.set_cons_succ, List.set_cons_zero]
        refine wpAnyY_pure (i := 16) 18 (v := .pointer (some ⟨wb, 8, none⟩)) rfl rfl (by kernel_rfl) (by kernel_rfl) (by kernel_rfl) (fun _ _ _ h => h) (Or.inl ⟨by rfl, by (intro W _; go_simp)⟩) ?_
        simp only [Act.put, List.setIfInBounds_toArray, List.set_cons_succ, List.set_cons_zero]
        refine wpAnyY_one (i := 17) rfl (by kernel_rfl) (fun Kc hKc => ?_)
        go_simp
        refine hKc.out _ _ (fun h => absurd h (by decide)) ?_
        clear hKc Kc
        refine wpAnyY_one (i := 18) rfl (by kernel_rfl) (fun Kc hKc => ?_)
        go_simp
        refine hKc.out _ _ (fun _ h => h) ?_
        clear hKc Kc
        refine wpAnyY_one (i := 19) rfl (by kernel_rfl) (fun Kc hKc => ?_)
        go_simp
        refine hKc.out _ _ (fun _ h => h) ?_
        clear hKc Kc
        refine wpAnyY_one (i := 20) rfl (by kernel_rfl) (fun Kc hKc => ?_)
        go_simp
        refine hKc.out _ _ (fun _ h => h) ?_
        clear hKc Kc
        refine wpAnyY_one (i := 21) rfl (by kernel_rfl) (fun Kc hKc => ?_)
        go_simp
        refine hKc.out _ _ (fun h => absurd h (by decide)) ?_
        clear hKc Kc
        refine wpAnyY_done (by kernel_rfl) ?_ _
        obtain ⟨w5, hw5⟩ : ∃ w5, w5 = ((w.setCell ⟨wb, 8, none⟩ (.int .i64 (max x.lo (-65536)))).setCell ⟨wb, 9, none⟩ (.int .i64 (min x.hi 65536))).drew := ⟨_, rfl⟩
        rw [← hw5]
        obtain ⟨a, ha⟩ : ∃ a, max x.lo (-65536) = a := ⟨_, rfl⟩
        obtain ⟨b, hb2⟩ : ∃ b, min x.hi 65536 = b := ⟨_, rfl⟩
        rw [ha, hb2] at hw5 HCL
        have HM : Hid (WkAt w5 base wb { x with lo := a, hi := b } vs y ∧ Below base w w5) := by
          rw [hw5]
          exact ⟨(wk_band HW.out a b).heap rfl, (((Below.refl _ _).setCell HF.out _).setCell HF.out _).drew⟩
        rw [ha, hb2]
        have e8 : w5.cell? ⟨wb, 8, none⟩ = some (.int .i64 a) := HM.out.1.cell 8 _ rfl
        have e9 : w5.cell? ⟨wb, 9, none⟩ = some (.int .i64 b) := HM.out.1.cell 9 _ rfl
        have e7 : w5.cell? ⟨wb, 7, none⟩ = some (.bool x.banded) := HM.out.1.cell 7 _ rfl
        have ff5 : ∀ i, w5.frozen? ⟨wb, i, none⟩ = false := fun i => HM.out.1.froz i
        clear hw5 ha hb2 c7 c8 c9 c8' c9' hs0 ff
        by_cases g1 : a = -65536
        · by_cases g2 : b = 65536
          · rw [if_pos ⟨g1, g2⟩] at HCL
            rw [g1] at e8
            rw [g2] at e9
            rw [g1, g2]
            clear g1 g2
            go_wp2
            go_end0
            refine ⟨rfl, ⟨y, ?_⟩, ((HM.out.2.setCell HF.out _).setCell HF.out _).setCell HF.out _⟩
            rw [HCL.out]
            have hwo := wk_open HM.out.1
            exact hwo
          · rw [if_neg (fun e => g2 e.2)] at HCL
            have g3 : decide (b = 65536) = false := by simpa using g2
            have g4 : (b == 65536) = false := by simpa using g2
            rw [g1] at e8 ⊢
            have HG : Hid (a = -65536) := g1
            clear g1
            go_wp2
            go_end0
            exact ⟨rfl, ⟨y, by rw [HCL.out]; exact HM.out.1⟩, HM.out.2⟩
        · rw [if_neg (fun e => g1 e.1)] at HCL
          have g3 : decide (a = -65536) = false := by simpa using g1
          have g4 : (a == -65536) = false := by simpa using g1
          go_wp2
          go_end0
          exact ⟨rfl, ⟨y, by rw [HCL.out]; exact HM.out.1⟩, HM.out.2⟩
theorem clampP_ok : PassOk clampP := by
  refine ⟨enters_of Try.func21 (by kernel_rfl) rfl, fun w base wb x vs y h _ _ => clamp_calls w base wb x vs y h, fun x vs hr hv => ⟨clamp_right hr, ?_⟩⟩
  show (valsB (clampB x).defs).1 = vs
  rw [(clamp_defs x).1]; exact hv
end Go.Proofs.Ytolehoibpnenlab

