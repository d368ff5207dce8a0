/-
  The document's Same, of two that are the same.
-/
import Derived.Test.YtolehoibpnenlabPsI
namespace Go.Proofs.Ytolehoibpnenlab
open Go.RowKit Go.Deep Go.Maps

structure T2 (w : World) (c1 c2 : Array Value) (wr : World) : Prop where
  low : Below w.heap.size w wr
  b1 : wr.heap[w.heap.size]? = some (.cells c1 26 (0, 0))
  b2 : wr.heap[w.heap.size + 1]? = some (.cells c2 26 (0, 0))
theorem T2.start (w : World) (c1 c2 : Array Value) : T2 w c1 c2 ((w.alloc (.cells c1 26)).alloc (.cells c2 26)) := by
  refine ⟨((Below.refl _ _).alloc (Nat.le_refl _) _).alloc (by simp) _, ?_, ?_⟩
  · have hb := (Below.refl (w.alloc (.cells c1 26)).heap.size (w.alloc (.cells c1 26))).alloc (Nat.le_refl _) (.cells c2 26)
    rw [hb.block _ (by simp)]
    exact heap_alloc_new w _
  · have h := heap_alloc_new (w.alloc (.cells c1 26)) (.cells c2 26)
    rwa [show (w.alloc (.cells c1 26)).heap.size = w.heap.size + 1 by simp] at h
theorem T2.next {w : World} {c1 c2 : Array Value} {wr w2 : World} (h : T2 w c1 c2 wr) (hb : Below wr.heap.size wr w2) : T2 w c1 c2 w2 :=
  ⟨h.low.trans (hb.mono h.low.size), by rw [hb.block _ (lt_block h.b1)]; exact h.b1, by rw [hb.block _ (lt_block h.b2)]; exact h.b2⟩
theorem T2.drew {w : World} {c1 c2 : Array Value} {wr : World} (h : T2 w c1 c2 wr) : T2 w c1 c2 wr.drew := h.next (Below.refl _ _).drew
set_option maxRecDepth 20000 in
set_option maxHeartbeats 8000000 in
theorem same_calls (x : Rc) (da1 : Option Addr) (dn dc1 : Nat) (sa1 : Option Addr) (sn sc1 : Nat) (ta1 : Option Addr) (tn tc1 : Nat) (da2 : Option Addr) (dc2 : Nat) (sa2 : Option Addr) (sc2 : Nat) (ta2 : Option Addr) (tc2 : Nat) (w : World)
    (h1 : RcAt w x da1 dn sa1 sn ta1 tn) (h2 : RcAt w x da2 dn sa2 sn ta2 tn) :
    Calls Try.prog 9 #[.agg (rcCells x da1 dn dc1 sa1 sn sc1 ta1 tn tc1), .agg (rcCells x da2 dn dc2 sa2 sn sc2 ta2 tn tc2)] w fun e w' => e = .returned (.bool true) ∧ Below w.heap.size w w' := by
  have HT : Hid (T2 w (rcCells x da1 dn dc1 sa1 sn sc1 ta1 tn tc1) (rcCells x da2 dn dc2 sa2 sn sc2 ta2 tn tc2) ((w.alloc (.cells (rcCells x da1 dn dc1 sa1 sn sc1 ta1 tn tc1) 26)).alloc (.cells (rcCells x da2 dn dc2 sa2 sn sc2 ta2 tn tc2) 26))) := T2.start _ _ _
  have H1 : Hid (∀ W, Below w.heap.size w W → RcAt W x da1 dn sa1 sn ta1 tn) := fun W hW => h1.below hW
  have H2 : Hid (∀ W, Below w.heap.size w W → RcAt W x da2 dn sa2 sn ta2 tn) := fun W hW => h2.below hW
  have hdn : dn ≤ maxLen := h1.defs.short
  have hsn : sn ≤ maxLen := h1.subst.short
  have htn : tn ≤ maxLen := h1.states.short
  have HL : Hid (x.defs.length = dn ∧ x.subst.length = sn ∧ x.states.length = tn) := ⟨h1.defs.length, h1.subst.length, h1.states.length⟩
  unfold maxLen at hdn hsn htn
  clear h1 h2
  unfold rcCells at *
  have HC : Hid (∀ W, T2 w #[.int .i64 x.letters, .slice da1 dn dc1, .slice sa1 sn sc1, .int .i64 x.beg, .int .i64 x.fin, .int .i64 x.front, .int .i64 x.back, .bool x.banded, .int .i64 x.lo, .int .i64 x.hi, .slice ta1 tn tc1] #[.int .i64 x.letters, .slice da2 dn dc2, .slice sa2 sn sc2, .int .i64 x.beg, .int .i64 x.fin, .int .i64 x.front, .int .i64 x.back, .bool x.banded, .int .i64 x.lo, .int .i64 x.hi, .slice ta2 tn tc2] W → W.cell? ⟨w.heap.size, 1, none⟩ = some (.slice da1 dn dc1) ∧ W.cell? ⟨w.heap.size + 1, 1, none⟩ = some (.slice da2 dn dc2) ∧ W.cell? ⟨w.heap.size, 2, none⟩ = some (.slice sa1 sn sc1) ∧ W.cell? ⟨w.heap.size + 1, 2, none⟩ = some (.slice sa2 sn sc2) ∧ W.cell? ⟨w.heap.size, 10, none⟩ = some (.slice ta1 tn tc1) ∧ W.cell? ⟨w.heap.size + 1, 10, none⟩ = some (.slice ta2 tn tc2)) := fun W hW => ⟨blk hW.b1 rfl, blk hW.b2 rfl, blk hW.b1 rfl, blk hW.b2 rfl, blk hW.b1 rfl, blk hW.b2 rfl⟩
  go_enter Try.func9, Try.ntmps9
  go_wp2
  go_loopg [5] dn (fun q iv wr => ∃ (k : Nat), k + q = dn ∧ iv = .int .i64 k ∧ Hid (T2 w #[.int .i64 x.letters, .slice da1 dn dc1, .slice sa1 sn sc1, .int .i64 x.beg, .int .i64 x.fin, .int .i64 x.front, .int .i64 x.back, .bool x.banded, .int .i64 x.lo, .int .i64 x.hi, .slice ta1 tn tc1] #[.int .i64 x.letters, .slice da2 dn dc2, .slice sa2 sn sc2, .int .i64 x.beg, .int .i64 x.fin, .int .i64 x.front, .int .i64 x.back, .bool x.banded, .int .i64 x.lo, .int .i64 x.hi, .slice ta2 tn tc2] wr))
  case atStart => exact ⟨0, by omega, rfl, HT.out⟩
  case round =>
    clear HT
    obtain ⟨k, hkq, rfl, HT⟩ := hrel
    by_cases hlt : k < dn
    · obtain ⟨p, hp⟩ : ∃ p, x.defs[k]? = some p := ⟨x.defs[k]'(by rw [HL.out.1]; exact hlt), List.getElem?_eq_getElem _⟩
      have HF : Hid (∃ g1 o1 g2 o2, da1 = some ⟨g1, o1, none⟩ ∧ da2 = some ⟨g2, o2, none⟩ ∧ ∀ W, Below w.heap.size w W → (W.cell? ⟨g1, o1 + k * 4, none⟩ = some (.int .i64 p.op) ∧ W.cell? ⟨g1, o1 + k * 4 + 1, none⟩ = some (.int .i64 p.num) ∧ W.cell? ⟨g1, o1 + k * 4 + 2, none⟩ = some (.int .i64 p.a) ∧ W.cell? ⟨g1, o1 + k * 4 + 3, none⟩ = some (.int .i64 p.b)) ∧ (W.cell? ⟨g2, o2 + k * 4, none⟩ = some (.int .i64 p.op) ∧ W.cell? ⟨g2, o2 + k * 4 + 1, none⟩ = some (.int .i64 p.num) ∧ W.cell? ⟨g2, o2 + k * 4 + 2, none⟩ = some (.int .i64 p.a) ∧ W.cell? ⟨g2, o2 + k * 4 + 3, none⟩ = some (.int .i64 p.b))) := by
        obtain ⟨g1, o1, e1, _⟩ := (H1.out w (Below.refl _ _)).defs.cells (by omega)
        obtain ⟨g2, o2, e2, _⟩ := (H2.out w (Below.refl _ _)).defs.cells (by omega)
        refine ⟨g1, o1, g2, o2, e1, e2, fun W hW => ?_⟩
        obtain ⟨g1', o1', e1', c1⟩ := (H1.out W hW).defs.cells (by omega)
        obtain ⟨g2', o2', e2', c2⟩ := (H2.out W hW).defs.cells (by omega)
        rw [e1] at e1'; cases e1'
        rw [e2] at e2'; cases e2'
        exact ⟨c1 k p hp, c2 k p hp⟩
      obtain ⟨g1, o1, g2, o2, rfl, rfl, hf⟩ := HF.out
      have HFF : Hid (∀ W, Below w.heap.size w W → (W.cell? ⟨g1, o1 + k * 4, none⟩ = some (.int .i64 p.op) ∧ W.cell? ⟨g1, o1 + k * 4 + 1, none⟩ = some (.int .i64 p.num) ∧ W.cell? ⟨g1, o1 + k * 4 + 2, none⟩ = some (.int .i64 p.a) ∧ W.cell? ⟨g1, o1 + k * 4 + 3, none⟩ = some (.int .i64 p.b)) ∧ (W.cell? ⟨g2, o2 + k * 4, none⟩ = some (.int .i64 p.op) ∧ W.cell? ⟨g2, o2 + k * 4 + 1, none⟩ = some (.int .i64 p.num) ∧ W.cell? ⟨g2, o2 + k * 4 + 2, none⟩ = some (.int .i64 p.a) ∧ W.cell? ⟨g2, o2 + k * 4 + 3, none⟩ = some (.int .i64 p.b))) := hf
      clear hf HF hp
      obtain ⟨c1, c2, _⟩ := HC.out wr HT.out
      have hk0 : decide ((k : Int) < (dn : Int)) = true := by simp; omega
      have hkd : (k : Int) < (dn : Int) := by omega
      go_wp2_with fail
      obtain ⟨d1, d2, _⟩ := HC.out wr.drew HT.out.drew
      have hs0 := And.intro d1 (And.intro d2 (HFF.out wr.drew HT.out.drew.low))
      refine wp_region_Y (fun j => [].contains j) (fun W : World => W.cell? ⟨w.heap.size, 1, none⟩ = some (.slice (some ⟨g1, o1, none⟩) dn dc1) ∧ W.cell? ⟨w.heap.size + 1, 1, none⟩ = some (.slice (some ⟨g2, o2, none⟩) dn dc2) ∧ (W.cell? ⟨g1, o1 + k * 4, none⟩ = some (.int .i64 p.op) ∧ W.cell? ⟨g1, o1 + k * 4 + 1, none⟩ = some (.int .i64 p.num) ∧ W.cell? ⟨g1, o1 + k * 4 + 2, none⟩ = some (.int .i64 p.a) ∧ W.cell? ⟨g1, o1 + k * 4 + 3, none⟩ = some (.int .i64 p.b)) ∧ (W.cell? ⟨g2, o2 + k * 4, none⟩ = some (.int .i64 p.op) ∧ W.cell? ⟨g2, o2 + k * 4 + 1, none⟩ = some (.int .i64 p.num) ∧ W.cell? ⟨g2, o2 + k * 4 + 2, none⟩ = some (.int .i64 p.a) ∧ W.cell? ⟨g2, o2 + k * 4 + 3, none⟩ = some (.int .i64 p.b))) (by kernel_rfl) ?_
      refine wpAnyY_takeD (i := 0) 43 (v := .pointer (some ⟨w.heap.size, 1, none⟩)) rfl rfl (by kernel_rfl) (by kernel_rfl) (late_of (by kernel_rfl)) (by kernel_rfl) (by kernel_rfl) (fun _ _ _ h => h) hs0 (Or.inl ⟨by rfl, by (intro W hW; obtain ⟨s0, s1, ⟨s2, s3, s4, s5⟩, ⟨s6, s7, s8, s9⟩⟩ := hW; go_simp)⟩) ?_
      simp only [Act.put, List.setIfInBounds_toArray, List.set_cons_succ, List.set_cons_zero]
      refine wpAnyY_takeD (i := 1) 44 (v := .slice (some ⟨g1, o1, none⟩) dn dc1) rfl rfl (by kernel_rfl) (by kernel_rfl) (late_of (by kernel_rfl)) (by kernel_rfl) (by kernel_rfl) (fun _ _ _ h => h) hs0 (Or.inl ⟨by rfl, by (intro W hW; obtain ⟨s0, s1, ⟨s2, s3, s4, s5⟩, ⟨s6, s7, s8, s9⟩⟩ := hW; go_simp)⟩) ?_
      simp only [Act.put, List.setIfInBounds_toArray, List.set_cons_succ, List.set_cons_zero]
      refine wpAnyY_takeD (i := 2) 45 (v := .int .i64 (k : Int)) rfl rfl (by kernel_rfl) (by kernel_rfl) (late_of (by kernel_rfl)) (by kernel_rfl) (by kernel_rfl) (fun _ _ _ h => h) hs0 (Or.inl ⟨by rfl, by (intro W hW; obtain ⟨s0, s1, ⟨s2, s3, s4, s5⟩, ⟨s6, s7, s8, s9⟩⟩ := hW; go_simp)⟩) ?_
      simp only [Act.put, List.setIfInBounds_toArray, List.set_cons_succ, List.set_cons_zero]
      refine wpAnyY_takeD (i := 3) 46 (v := .pointer (some ⟨g1, o1 + k * 4, none⟩)) rfl rfl (by kernel_rfl) (by kernel_rfl) (late_of (by kernel_rfl)) (by kernel_rfl) (by kernel_rfl) (fun _ _ _ h => h) hs0 (Or.inl ⟨by rfl, by (intro W hW; obtain ⟨s0, s1, ⟨s2, s3, s4, s5⟩, ⟨s6, s7, s8, s9⟩⟩ := hW; go_simp)⟩) ?_
      simp only [Act.put, List.setIfInBounds_toArray, List.set_cons_succ, List.set_cons_zero]
      refine wpAnyY_takeD (i := 4) 47 (v := .agg #[.int .i64 p.op, .int .i64 p.num, .int .i64 p.a, .int .i64 p.b]) rfl rfl (by kernel_rfl) (by kernel_rfl) (late_of (by kernel_rfl)) (by kernel_rfl) (by kernel_rfl) (fun _ _ _ h => h) hs0 (Or.inl ⟨by rfl, by (intro W hW; obtain ⟨s0, s1, ⟨s2, s3, s4, s5⟩, ⟨s6, s7, s8, s9⟩⟩ := hW; go_simp)⟩) ?_
      simp only [Act.put, List.setIfInBounds_toArray, List.set_cons_succ, List.set_cons_zero]
      refine wpAnyY_takeD (i := 5) 48 (v := .pointer (some ⟨w.heap.size + 1, 1, none⟩)) rfl rfl (by kernel_rfl) (by kernel_rfl) (late_of (by kernel_rfl)) (by kernel_rfl) (by kernel_rfl) (fun _ _ _ h => h) hs0 (Or.inl ⟨by rfl, by (intro W hW; obtain ⟨s0, s1, ⟨s2, s3, s4, s5⟩, ⟨s6, s7, s8, s9⟩⟩ := hW; go_simp)⟩) ?_
      simp only [Act.put, List.setIfInBounds_toArray, List.set_cons_succ, List.set_cons_zero]
      refine wpAnyY_takeD (i := 6) 49 (v := .slice (some ⟨g2, o2, none⟩) dn dc2) rfl rfl (by kernel_rfl) (by kernel_rfl) (late_of (by kernel_rfl)) (by kernel_rfl) (by kernel_rfl) (fun _ _ _ h => h) hs0 (Or.inl ⟨by rfl, by (intro W hW; obtain ⟨s0, s1, ⟨s2, s3, s4, s5⟩, ⟨s6, s7, s8, s9⟩⟩ := hW; go_simp)⟩) ?_
      simp only [Act.put, List.setIfInBounds_toArray, List.set_cons_succ, List.set_cons_zero]
      refine wpAnyY_takeD (i := 7) 50 (v := .int .i64 (k : Int)) rfl rfl (by kernel_rfl) (by kernel_rfl) (late_of (by kernel_rfl)) (by kernel_rfl) (by kernel_rfl) (fun _ _ _ h => h) hs0 (Or.inl ⟨by rfl, by (intro W hW; obtain ⟨s0, s1, ⟨s2, s3, s4, s5⟩, ⟨s6, s7, s8, s9⟩⟩ := hW; go_simp)⟩) ?_
      simp only [Act.put, List.setIfInBounds_toArray, List.set_cons_succ, List.set_cons_zero]
      refine wpAnyY_takeD (i := 8) 51 (v := .pointer (some ⟨g2, o2 + k * 4, none⟩)) rfl rfl (by kernel_rfl) (by kernel_rfl) (late_of (by kernel_rfl)) (by kernel_rfl) (by kernel_rfl) (fun _ _ _ h => h) hs0 (Or.inl ⟨by rfl, by (intro W hW; obtain ⟨s0, s1, ⟨s2, s3, s4, s5⟩, ⟨s6, s7, s8, s9⟩⟩ := hW; go_simp)⟩) ?_
      simp only [Act.put, List.setIfInBounds_toArray, List.set_cons_succ, List.set_cons_zero]
      refine wpAnyY_takeD (i := 9) 52 (v := .agg #[.int .i64 p.op, .int .i64 p.num, .int .i64 p.a, .int .i64 p.b]) rfl rfl (by kernel_rfl) (by kernel_rfl) (late_of (by kernel_rfl)) (by kernel_rfl) (by kernel_rfl) (fun _ _ _ h => h) hs0 (Or.inl ⟨by rfl, by (intro W hW; obtain ⟨s0, s1, ⟨s2, s3, s4, s5⟩, ⟨s6, s7, s8, s9⟩⟩ := hW; go_simp)⟩) ?_
      simp only [Act.put, List.setIfInBounds_toArray, List.set_cons_succ, List.set_cons_zero]
      refine wpAnyY_one (i := 10) rfl (by kernel_rfl) (fun Kc hKc => ?_)
      go_simp
      refine hKc.out _ _ (fun _ h => h) ?_
      clear hKc Kc
      refine wpAnyY_done (by kernel_rfl) ?_ _
      clear hs0 d1 d2 c1 c2
      have HN : Hid (T2 w #[.int .i64 x.letters, .slice (some ⟨g1, o1, none⟩) dn dc1, .slice sa1 sn sc1, .int .i64 x.beg, .int .i64 x.fin, .int .i64 x.front, .int .i64 x.back, .bool x.banded, .int .i64 x.lo, .int .i64 x.hi, .slice ta1 tn tc1] #[.int .i64 x.letters, .slice (some ⟨g2, o2, none⟩) dn dc2, .slice sa2 sn sc2, .int .i64 x.beg, .int .i64 x.fin, .int .i64 x.front, .int .i64 x.back, .bool x.banded, .int .i64 x.lo, .int .i64 x.hi, .slice ta2 tn tc2] wr.drew) := HT.out.drew
      clear HT
      go_wp2
      go_roundg (gk - 1)
      case measure => omega
      case rel => exact ⟨k + 1, by omega, by go_num, HN.out⟩
    · have hk0 : decide ((k : Int) < (dn : Int)) = false := by simp; omega
      obtain ⟨c1, c2, c3, c4, c5, c6⟩ := HC.out wr HT.out
      go_wp2
      clear c1 c2 c3 c4 c5 c6
      go_loopg [6] sn (fun q iv wr => ∃ (k : Nat), k + q = sn ∧ iv = .int .i64 k ∧ Hid (T2 w #[.int .i64 x.letters, .slice da1 dn dc1, .slice sa1 sn sc1, .int .i64 x.beg, .int .i64 x.fin, .int .i64 x.front, .int .i64 x.back, .bool x.banded, .int .i64 x.lo, .int .i64 x.hi, .slice ta1 tn tc1] #[.int .i64 x.letters, .slice da2 dn dc2, .slice sa2 sn sc2, .int .i64 x.beg, .int .i64 x.fin, .int .i64 x.front, .int .i64 x.back, .bool x.banded, .int .i64 x.lo, .int .i64 x.hi, .slice ta2 tn tc2] wr))
      case atStart => exact ⟨0, by omega, rfl, HT.out⟩
      case round =>
        clear HT
        clear hk0 hlt hkq
        obtain ⟨j, hkq, rfl, HT⟩ := hrel
        by_cases hlt : j < sn
        · obtain ⟨p, hp⟩ : ∃ p, x.subst[j]? = some p := ⟨x.subst[j]'(by rw [HL.out.2.1]; exact hlt), List.getElem?_eq_getElem _⟩
          have HF : Hid (∃ g1 o1 g2 o2, sa1 = some ⟨g1, o1, none⟩ ∧ sa2 = some ⟨g2, o2, none⟩ ∧ ∀ W, Below w.heap.size w W → W.cell? ⟨g1, o1 + j, none⟩ = some (.int .i64 p) ∧ W.cell? ⟨g2, o2 + j, none⟩ = some (.int .i64 p)) := by
            obtain ⟨g1, o1, e1, _⟩ := (H1.out w (Below.refl _ _)).subst.isI j p hp
            obtain ⟨g2, o2, e2, _⟩ := (H2.out w (Below.refl _ _)).subst.isI j p hp
            refine ⟨g1, o1, g2, o2, e1, e2, fun W hW => ?_⟩
            obtain ⟨g1', o1', e1', c1⟩ := (H1.out W hW).subst.isI j p hp
            obtain ⟨g2', o2', e2', c2⟩ := (H2.out W hW).subst.isI j p hp
            rw [e1] at e1'; cases e1'
            rw [e2] at e2'; cases e2'
            exact ⟨c1, c2⟩
          obtain ⟨g1, o1, g2, o2, rfl, rfl, hf⟩ := HF.out
          have HFF : Hid (∀ W, Below w.heap.size w W → W.cell? ⟨g1, o1 + j, none⟩ = some (.int .i64 p) ∧ W.cell? ⟨g2, o2 + j, none⟩ = some (.int .i64 p)) := hf
          clear hf HF hp
          obtain ⟨_, _, c3, c4, _⟩ := HC.out wr HT.out
          have hk0 : decide ((j : Int) < (sn : Int)) = true := by simp; omega
          have hkd : (j : Int) < (sn : Int) := by omega
          go_wp2_with fail
          obtain ⟨_, _, d1, d2, _⟩ := HC.out wr.drew HT.out.drew
          have hs0 := And.intro d1 (And.intro d2 (HFF.out wr.drew HT.out.drew.low))
          refine wp_region_Y (fun j => [].contains j) (fun W : World => W.cell? ⟨w.heap.size, 2, none⟩ = some (.slice (some ⟨g1, o1, none⟩) sn sc1) ∧ W.cell? ⟨w.heap.size + 1, 2, none⟩ = some (.slice (some ⟨g2, o2, none⟩) sn sc2) ∧ W.cell? ⟨g1, o1 + j, none⟩ = some (.int .i64 p) ∧ W.cell? ⟨g2, o2 + j, none⟩ = some (.int .i64 p)) (by kernel_rfl) ?_
          refine wpAnyY_takeD (i := 0) 61 (v := .pointer (some ⟨w.heap.size, 2, none⟩)) rfl rfl (by kernel_rfl) (by kernel_rfl) (late_of (by kernel_rfl)) (by kernel_rfl) (by kernel_rfl) (fun _ _ _ h => h) hs0 (Or.inl ⟨by rfl, by (intro W hW; obtain ⟨s0, s1, s2, s3⟩ := hW; go_simp)⟩) ?_
          simp only [Act.put, List.setIfInBounds_toArray, List.set_cons_succ, List.set_cons_zero]
          refine wpAnyY_takeD (i := 1) 62 (v := .slice (some ⟨g1, o1, none⟩) sn sc1) rfl rfl (by kernel_rfl) (by kernel_rfl) (late_of (by kernel_rfl)) (by kernel_rfl) (by kernel_rfl) (fun _ _ _ h => h) hs0 (Or.inl ⟨by rfl, by (intro W hW; obtain ⟨s0, s1, s2, s3⟩ := hW; go_simp)⟩) ?_
          simp only [Act.put, List.setIfInBounds_toArray, List.set_cons_succ, List.set_cons_zero]
          refine wpAnyY_takeD (i := 2) 63 (v := .int .i64 (j : Int)) rfl rfl (by kernel_rfl) (by kernel_rfl) (late_of (by kernel_rfl)) (by kernel_rfl) (by kernel_rfl) (fun _ _ _ h => h) hs0 (Or.inl ⟨by rfl, by (intro W hW; obtain ⟨s0, s1, s2, s3⟩ := hW; go_simp)⟩) ?_
          simp only [Act.put, List.setIfInBounds_toArray, List.set_cons_succ, List.set_cons_zero]
          refine wpAnyY_takeD (i := 3) 64 (v := .pointer (some ⟨g1, o1 + j, none⟩)) rfl rfl (by kernel_rfl) (by kernel_rfl) (late_of (by kernel_rfl)) (by kernel_rfl) (by kernel_rfl) (fun _ _ _ h => h) hs0 (Or.inl ⟨by rfl, by (intro W hW; obtain ⟨s0, s1, s2, s3⟩ := hW; go_simp)⟩) ?_
          simp only [Act.put, List.setIfInBounds_toArray, List.set_cons_succ, List.set_cons_zero]
          refine wpAnyY_takeD (i := 4) 65 (v := .int .i64 p) rfl rfl (by kernel_rfl) (by kernel_rfl) (late_of (by kernel_rfl)) (by kernel_rfl) (by kernel_rfl) (fun _ _ _ h => h) hs0 (Or.inl ⟨by rfl, by (intro W hW; obtain ⟨s0, s1, s2, s3⟩ := hW; go_simp)⟩) ?_
          simp only [Act.put, List.setIfInBounds_toArray, List.set_cons_succ, List.set_cons_zero]
          refine wpAnyY_takeD (i := 5) 66 (v := .pointer (some ⟨w.heap.size + 1, 2, none⟩)) rfl rfl (by kernel_rfl) (by kernel_rfl) (late_of (by kernel_rfl)) (by kernel_rfl) (by kernel_rfl) (fun _ _ _ h => h) hs0 (Or.inl ⟨by rfl, by (intro W hW; obtain ⟨s0, s1, s2, s3⟩ := hW; go_simp)⟩) ?_
          simp only [Act.put, List.setIfInBounds_toArray, List.set_cons_succ, List.set_cons_zero]
          refine wpAnyY_takeD (i := 6) 67 (v := .slice (some ⟨g2, o2, none⟩) sn sc2) rfl rfl (by kernel_rfl) (by kernel_rfl) (late_of (by kernel_rfl)) (by kernel_rfl) (by kernel_rfl) (fun _ _ _ h => h) hs0 (Or.inl ⟨by rfl, by (intro W hW; obtain ⟨s0, s1, s2, s3⟩ := hW; go_simp)⟩) ?_
          simp only [Act.put, List.setIfInBounds_toArray, List.set_cons_succ, List.set_cons_zero]
          refine wpAnyY_takeD (i := 7) 68 (v := .int .i64 (j : Int)) rfl rfl (by kernel_rfl) (by kernel_rfl) (late_of (by kernel_rfl)) (by kernel_rfl) (by kernel_rfl) (fun _ _ _ h => h) hs0 (Or.inl ⟨by rfl, by (intro W hW; obtain ⟨s0, s1, s2, s3⟩ := hW; go_simp)⟩) ?_
          simp only [Act.put, List.setIfInBounds_toArray, List.set_cons_succ, List.set_cons_zero]
          refine wpAnyY_takeD (i := 8) 69 (v := .pointer (some ⟨g2, o2 + j, none⟩)) rfl rfl (by kernel_rfl) (by kernel_rfl) (late_of (by kernel_rfl)) (by kernel_rfl) (by kernel_rfl) (fun _ _ _ h => h) hs0 (Or.inl ⟨by rfl, by (intro W hW; obtain ⟨s0, s1, s2, s3⟩ := hW; go_simp)⟩) ?_
          simp only [Act.put, List.setIfInBounds_toArray, List.set_cons_succ, List.set_cons_zero]
          refine wpAnyY_takeD (i := 9) 70 (v := .int .i64 p) rfl rfl (by kernel_rfl) (by kernel_rfl) (late_of (by kernel_rfl)) (by kernel_rfl) (by kernel_rfl) (fun _ _ _ h => h) hs0 (Or.inl ⟨by rfl, by (intro W hW; obtain ⟨s0, s1, s2, s3⟩ := hW; go_simp)⟩) ?_
          simp only [Act.put, List.setIfInBounds_toArray, List.set_cons_succ, List.set_cons_zero]
          refine wpAnyY_one (i := 10) rfl (by kernel_rfl) (fun Kc hKc => ?_)
          go_simp
          refine hKc.out _ _ (fun _ h => h) ?_
          clear hKc Kc
          refine wpAnyY_done (by kernel_rfl) ?_ _
          clear hs0 d1 d2 c3 c4
          have HN : Hid (T2 w #[.int .i64 x.letters, .slice da1 dn dc1, .slice (some ⟨g1, o1, none⟩) sn sc1, .int .i64 x.beg, .int .i64 x.fin, .int .i64 x.front, .int .i64 x.back, .bool x.banded, .int .i64 x.lo, .int .i64 x.hi, .slice ta1 tn tc1] #[.int .i64 x.letters, .slice da2 dn dc2, .slice (some ⟨g2, o2, none⟩) sn sc2, .int .i64 x.beg, .int .i64 x.fin, .int .i64 x.front, .int .i64 x.back, .bool x.banded, .int .i64 x.lo, .int .i64 x.hi, .slice ta2 tn tc2] wr.drew) := HT.out.drew
          clear HT
          go_wp2
          go_roundg (gk - 1)
          case measure => omega
          case rel => exact ⟨j + 1, by omega, by go_num, HN.out⟩
        · have hk0 : decide ((j : Int) < (sn : Int)) = false := by simp; omega
          obtain ⟨_, _, c3, c4, c5, c6⟩ := HC.out wr HT.out
          go_wp2
          clear c3 c4 c5 c6
          go_loopg [7, 8, 9, 10] tn (fun q iv _ _ _ wr => ∃ (k : Nat), k + q = tn ∧ iv = .int .i64 k ∧ Hid (T2 w #[.int .i64 x.letters, .slice da1 dn dc1, .slice sa1 sn sc1, .int .i64 x.beg, .int .i64 x.fin, .int .i64 x.front, .int .i64 x.back, .bool x.banded, .int .i64 x.lo, .int .i64 x.hi, .slice ta1 tn tc1] #[.int .i64 x.letters, .slice da2 dn dc2, .slice sa2 sn sc2, .int .i64 x.beg, .int .i64 x.fin, .int .i64 x.front, .int .i64 x.back, .bool x.banded, .int .i64 x.lo, .int .i64 x.hi, .slice ta2 tn tc2] wr))
          case atStart => exact ⟨0, by omega, rfl, HT.out⟩
          case round =>
            clear HT hk0 hlt hkq
            obtain ⟨i, hkq, rfl, HT⟩ := hrel
            obtain ⟨wo, rfl⟩ : ∃ wo, wo = wr := ⟨_, rfl⟩
            obtain ⟨gO, rfl⟩ : ∃ gO, gO = gk := ⟨_, rfl⟩
            by_cases hlt : i < tn
            · obtain ⟨s, hs⟩ : ∃ s, x.states[i]? = some s := ⟨x.states[i]'(by rw [HL.out.2.2]; exact hlt), List.getElem?_eq_getElem _⟩
              obtain ⟨g1, o1, e1, hc1⟩ := (H1.out wo HT.out.low).states.cells (by omega)
              obtain ⟨g2, o2, e2, hc2⟩ := (H2.out wo HT.out.low).states.cells (by omega)
              obtain ⟨ea1, en, ec1, k1, k2, k3⟩ := hc1 i s hs
              obtain ⟨ea2, en2, ec2, m1, m2, m3⟩ := hc2 i s hs
              obtain rfl : en = en2 := k3.length.symm.trans m3.length
              have HE : Hid (PcsAt wo ea1 en s.2 ∧ PcsAt wo ea2 en s.2) := ⟨k3, m3⟩
              have hen := k3.short
              unfold maxLen at hen
              have HTA : Hid (ta1 = some ⟨g1, o1, none⟩ ∧ ta2 = some ⟨g2, o2, none⟩) := ⟨e1, e2⟩
              obtain ⟨_, _, _, _, c5, c6⟩ := HC.out wo HT.out
              have HCC : Hid (∀ W, T2 w #[.int .i64 x.letters, .slice da1 dn dc1, .slice sa1 sn sc1, .int .i64 x.beg, .int .i64 x.fin, .int .i64 x.front, .int .i64 x.back, .bool x.banded, .int .i64 x.lo, .int .i64 x.hi, .slice ta1 tn tc1] #[.int .i64 x.letters, .slice da2 dn dc2, .slice sa2 sn sc2, .int .i64 x.beg, .int .i64 x.fin, .int .i64 x.front, .int .i64 x.back, .bool x.banded, .int .i64 x.lo, .int .i64 x.hi, .slice ta2 tn tc2] W → W.cell? ⟨w.heap.size, 10, none⟩ = some (.slice ta1 tn tc1) ∧ W.cell? ⟨w.heap.size + 1, 10, none⟩ = some (.slice ta2 tn tc2)) := fun W hW => (HC.out W hW).2.2.2.2
              rw [e1] at c5
              rw [e2] at c6
              clear hc1 hc2 k3 m3 hs e1 e2
              have hk0 : decide ((i : Int) < (tn : Int)) = true := by simp; omega
              have hkd : (i : Int) < (tn : Int) := by omega
              have HT2 : Hid (T2 w #[.int .i64 x.letters, .slice da1 dn dc1, .slice sa1 sn sc1, .int .i64 x.beg, .int .i64 x.fin, .int .i64 x.front, .int .i64 x.back, .bool x.banded, .int .i64 x.lo, .int .i64 x.hi, .slice ta1 tn tc1] #[.int .i64 x.letters, .slice da2 dn dc2, .slice sa2 sn sc2, .int .i64 x.beg, .int .i64 x.fin, .int .i64 x.front, .int .i64 x.back, .bool x.banded, .int .i64 x.lo, .int .i64 x.hi, .slice ta2 tn tc2] ((wo.alloc (.cells #[.int .i64 s.1, .slice ea1 en ec1] 39)).alloc (.cells #[.int .i64 s.1, .slice ea2 en ec2] 39)) ∧ ((wo.alloc (.cells #[.int .i64 s.1, .slice ea1 en ec1] 39)).alloc (.cells #[.int .i64 s.1, .slice ea2 en ec2] 39)).heap[wo.heap.size]? = some (.cells #[.int .i64 s.1, .slice ea1 en ec1] 39 (0, 0)) ∧ ((wo.alloc (.cells #[.int .i64 s.1, .slice ea1 en ec1] 39)).alloc (.cells #[.int .i64 s.1, .slice ea2 en ec2] 39)).heap[wo.heap.size + 1]? = some (.cells #[.int .i64 s.1, .slice ea2 en ec2] 39 (0, 0)) ∧ Below wo.heap.size wo ((wo.alloc (.cells #[.int .i64 s.1, .slice ea1 en ec1] 39)).alloc (.cells #[.int .i64 s.1, .slice ea2 en ec2] 39))) := by
                have hb1 := (Below.refl wo.heap.size wo).alloc (Nat.le_refl _) (.cells #[.int .i64 s.1, .slice ea1 en ec1] 39)
                have hb2 := (Below.refl (wo.alloc (.cells #[.int .i64 s.1, .slice ea1 en ec1] 39)).heap.size (wo.alloc (.cells #[.int .i64 s.1, .slice ea1 en ec1] 39))).alloc (Nat.le_refl _) (.cells #[.int .i64 s.1, .slice ea2 en ec2] 39)
                have hb := hb1.trans (hb2.mono hb1.size)
                refine ⟨HT.out.next hb, ?_, ?_, hb⟩
                · rw [hb2.block _ (by simp)]; exact heap_alloc_new wo _
                · have h := heap_alloc_new (wo.alloc (.cells #[.int .i64 s.1, .slice ea1 en ec1] 39)) (.cells #[.int .i64 s.1, .slice ea2 en ec2] 39)
                  rwa [show (wo.alloc (.cells #[.int .i64 s.1, .slice ea1 en ec1] 39)).heap.size = wo.heap.size + 1 by simp] at h
              have c6' : ∀ o, (wo.alloc o).cell? ⟨w.heap.size + 1, 10, none⟩ = some (.slice (some ⟨g2, o2, none⟩) tn tc2) := fun o => Lib.cell?_alloc_some _ c6
              have m1' : ∀ o, (wo.alloc o).cell? ⟨g2, o2 + i * 2, none⟩ = some (.int .i64 s.1) := fun o => Lib.cell?_alloc_some _ m1
              have m2' : ∀ o, (wo.alloc o).cell? ⟨g2, o2 + i * 2 + 1, none⟩ = some (.slice ea2 en ec2) := fun o => Lib.cell?_alloc_some _ m2
              have p0 : ((wo.alloc (.cells #[.int .i64 s.1, .slice ea1 en ec1] 39)).alloc (.cells #[.int .i64 s.1, .slice ea2 en ec2] 39)).cell? ⟨wo.heap.size, 0, none⟩ = some (.int .i64 s.1) := blk HT2.out.2.1 rfl
              have p1 : ((wo.alloc (.cells #[.int .i64 s.1, .slice ea1 en ec1] 39)).alloc (.cells #[.int .i64 s.1, .slice ea2 en ec2] 39)).cell? ⟨wo.heap.size, 1, none⟩ = some (.slice ea1 en ec1) := blk HT2.out.2.1 rfl
              have p2 : ((wo.alloc (.cells #[.int .i64 s.1, .slice ea1 en ec1] 39)).alloc (.cells #[.int .i64 s.1, .slice ea2 en ec2] 39)).cell? ⟨wo.heap.size + 1, 0, none⟩ = some (.int .i64 s.1) := blk HT2.out.2.2.1 rfl
              have p3 : ((wo.alloc (.cells #[.int .i64 s.1, .slice ea1 en ec1] 39)).alloc (.cells #[.int .i64 s.1, .slice ea2 en ec2] 39)).cell? ⟨wo.heap.size + 1, 1, none⟩ = some (.slice ea2 en ec2) := blk HT2.out.2.2.1 rfl
              go_wp2
              go_loopg [10] en (fun q iv wr => ∃ (k : Nat), k + q = en ∧ iv = .int .i64 k ∧ Hid (T2 w #[.int .i64 x.letters, .slice da1 dn dc1, .slice sa1 sn sc1, .int .i64 x.beg, .int .i64 x.fin, .int .i64 x.front, .int .i64 x.back, .bool x.banded, .int .i64 x.lo, .int .i64 x.hi, .slice ta1 tn tc1] #[.int .i64 x.letters, .slice da2 dn dc2, .slice sa2 sn sc2, .int .i64 x.beg, .int .i64 x.fin, .int .i64 x.front, .int .i64 x.back, .bool x.banded, .int .i64 x.lo, .int .i64 x.hi, .slice ta2 tn tc2] wr ∧ wr.heap[wo.heap.size]? = some (.cells #[.int .i64 s.1, .slice ea1 en ec1] 39 (0, 0)) ∧ wr.heap[wo.heap.size + 1]? = some (.cells #[.int .i64 s.1, .slice ea2 en ec2] 39 (0, 0)) ∧ Below wo.heap.size wo wr))
              case atStart => exact ⟨0, by omega, rfl, HT2.out⟩
              case round =>
                clear HT2 c5 c6 k1 k2 m1 m2 c6' m1' m2' p0 p1 p2 p3
                obtain ⟨z, hzq, rfl, HZ⟩ := hrel
                by_cases hzl : z < en
                · obtain ⟨p, hp⟩ : ∃ p, s.2[z]? = some p := ⟨s.2[z]'(by rw [HE.out.1.length]; exact hzl), List.getElem?_eq_getElem _⟩
                  obtain ⟨y1, q1, e1, hd1⟩ := HE.out.1.cells (by omega)
                  obtain ⟨y2, q2, e2, hd2⟩ := HE.out.2.cells (by omega)
                  subst e1
                  subst e2
                  have HFF : Hid (∀ W, Below wo.heap.size wo W → (W.cell? ⟨y1, q1 + z * 2, none⟩ = some (.int .i64 p.1) ∧ W.cell? ⟨y1, q1 + z * 2 + 1, none⟩ = some (.int .i64 p.2)) ∧ (W.cell? ⟨y2, q2 + z * 2, none⟩ = some (.int .i64 p.1) ∧ W.cell? ⟨y2, q2 + z * 2 + 1, none⟩ = some (.int .i64 p.2))) := fun W hW => by
                    obtain ⟨a1, a2⟩ := hd1 z p hp
                    obtain ⟨a3, a4⟩ := hd2 z p hp
                    exact ⟨⟨by rw [hW.cell (World.block_lt_of_cell? wo _ a1)]; exact a1, by rw [hW.cell (World.block_lt_of_cell? wo _ a2)]; exact a2⟩, ⟨by rw [hW.cell (World.block_lt_of_cell? wo _ a3)]; exact a3, by rw [hW.cell (World.block_lt_of_cell? wo _ a4)]; exact a4⟩⟩
                  clear hd1 hd2 hp
                  have l1 : wr.cell? ⟨wo.heap.size, 1, none⟩ = some (.slice (some ⟨y1, q1, none⟩) en ec1) := blk HZ.out.2.1 rfl
                  have l2 : wr.cell? ⟨wo.heap.size + 1, 1, none⟩ = some (.slice (some ⟨y2, q2, none⟩) en ec2) := blk HZ.out.2.2.1 rfl
                  have hz0 : decide ((z : Int) < (en : Int)) = true := by simp; omega
                  have hzd : (z : Int) < (en : Int) := by omega
                  go_wp2_with fail
                  have d1 : wr.drew.cell? ⟨wo.heap.size, 1, none⟩ = some (.slice (some ⟨y1, q1, none⟩) en ec1) := l1
                  have d2 : wr.drew.cell? ⟨wo.heap.size + 1, 1, none⟩ = some (.slice (some ⟨y2, q2, none⟩) en ec2) := l2
                  have hs0 := And.intro d1 (And.intro d2 (HFF.out wr.drew HZ.out.2.2.2.drew))
                  refine wp_region_Y (fun j => [].contains j) (fun W : World => W.cell? ⟨wo.heap.size, 1, none⟩ = some (.slice (some ⟨y1, q1, none⟩) en ec1) ∧ W.cell? ⟨wo.heap.size + 1, 1, none⟩ = some (.slice (some ⟨y2, q2, none⟩) en ec2) ∧ (W.cell? ⟨y1, q1 + z * 2, none⟩ = some (.int .i64 p.1) ∧ W.cell? ⟨y1, q1 + z * 2 + 1, none⟩ = some (.int .i64 p.2)) ∧ (W.cell? ⟨y2, q2 + z * 2, none⟩ = some (.int .i64 p.1) ∧ W.cell? ⟨y2, q2 + z * 2 + 1, none⟩ = some (.int .i64 p.2))) (by kernel_rfl) ?_
                  refine wpAnyY_takeD (i := 0) 110 (v := .pointer (some ⟨wo.heap.size, 1, none⟩)) rfl rfl (by kernel_rfl) (by kernel_rfl) (late_of (by kernel_rfl)) (by kernel_rfl) (by kernel_rfl) (fun _ _ _ h => h) hs0 (Or.inl ⟨by rfl, by (intro W hW; obtain ⟨s0, s1, ⟨s2, s3⟩, ⟨s4, s5⟩⟩ := hW; go_simp)⟩) ?_
                  simp only [Act.put, List.setIfInBounds_toArray, List.set_cons_succ, List.set_cons_zero]
                  refine wpAnyY_takeD (i := 1) 111 (v := .slice (some ⟨y1, q1, none⟩) en ec1) rfl rfl (by kernel_rfl) (by kernel_rfl) (late_of (by kernel_rfl)) (by kernel_rfl) (by kernel_rfl) (fun _ _ _ h => h) hs0 (Or.inl ⟨by rfl, by (intro W hW; obtain ⟨s0, s1, ⟨s2, s3⟩, ⟨s4, s5⟩⟩ := hW; go_simp)⟩) ?_
                  simp only [Act.put, List.setIfInBounds_toArray, List.set_cons_succ, List.set_cons_zero]
                  refine wpAnyY_takeD (i := 2) 112 (v := .int .i64 (z : Int)) rfl rfl (by kernel_rfl) (by kernel_rfl) (late_of (by kernel_rfl)) (by kernel_rfl) (by kernel_rfl) (fun _ _ _ h => h) hs0 (Or.inl ⟨by rfl, by (intro W hW; obtain ⟨s0, s1, ⟨s2, s3⟩, ⟨s4, s5⟩⟩ := hW; go_simp)⟩) ?_
                  simp only [Act.put, List.setIfInBounds_toArray, List.set_cons_succ, List.set_cons_zero]
                  refine wpAnyY_takeD (i := 3) 113 (v := .pointer (some ⟨y1, q1 + z * 2, none⟩)) rfl rfl (by kernel_rfl) (by kernel_rfl) (late_of (by kernel_rfl)) (by kernel_rfl) (by kernel_rfl) (fun _ _ _ h => h) hs0 (Or.inl ⟨by rfl, by (intro W hW; obtain ⟨s0, s1, ⟨s2, s3⟩, ⟨s4, s5⟩⟩ := hW; go_simp)⟩) ?_
                  simp only [Act.put, List.setIfInBounds_toArray, List.set_cons_succ, List.set_cons_zero]
                  refine wpAnyY_takeD (i := 4) 114 (v := .agg #[.int .i64 p.1, .int .i64 p.2]) rfl rfl (by kernel_rfl) (by kernel_rfl) (late_of (by kernel_rfl)) (by kernel_rfl) (by kernel_rfl) (fun _ _ _ h => h) hs0 (Or.inl ⟨by rfl, by (intro W hW; obtain ⟨s0, s1, ⟨s2, s3⟩, ⟨s4, s5⟩⟩ := hW; go_simp)⟩) ?_
                  simp only [Act.put, List.setIfInBounds_toArray, List.set_cons_succ, List.set_cons_zero]
                  refine wpAnyY_takeD (i := 5) 115 (v := .pointer (some ⟨wo.heap.size + 1, 1, none⟩)) rfl rfl (by kernel_rfl) (by kernel_rfl) (late_of (by kernel_rfl)) (by kernel_rfl) (by kernel_rfl) (fun _ _ _ h => h) hs0 (Or.inl ⟨by rfl, by (intro W hW; obtain ⟨s0, s1, ⟨s2, s3⟩, ⟨s4, s5⟩⟩ := hW; go_simp)⟩) ?_
                  simp only [Act.put, List.setIfInBounds_toArray, List.set_cons_succ, List.set_cons_zero]
                  refine wpAnyY_takeD (i := 6) 116 (v := .slice (some ⟨y2, q2, none⟩) en ec2) rfl rfl (by kernel_rfl) (by kernel_rfl) (late_of (by kernel_rfl)) (by kernel_rfl) (by kernel_rfl) (fun _ _ _ h => h) hs0 (Or.inl ⟨by rfl, by (intro W hW; obtain ⟨s0, s1, ⟨s2, s3⟩, ⟨s4, s5⟩⟩ := hW; go_simp)⟩) ?_
                  simp only [Act.put, List.setIfInBounds_toArray, List.set_cons_succ, List.set_cons_zero]
                  refine wpAnyY_takeD (i := 7) 117 (v := .int .i64 (z : Int)) rfl rfl (by kernel_rfl) (by kernel_rfl) (late_of (by kernel_rfl)) (by kernel_rfl) (by kernel_rfl) (fun _ _ _ h => h) hs0 (Or.inl ⟨by rfl, by (intro W hW; obtain ⟨s0, s1, ⟨s2, s3⟩, ⟨s4, s5⟩⟩ := hW; go_simp)⟩) ?_
                  simp only [Act.put, List.setIfInBounds_toArray, List.set_cons_succ, List.set_cons_zero]
                  refine wpAnyY_takeD (i := 8) 118 (v := .pointer (some ⟨y2, q2 + z * 2, none⟩)) rfl rfl (by kernel_rfl) (by kernel_rfl) (late_of (by kernel_rfl)) (by kernel_rfl) (by kernel_rfl) (fun _ _ _ h => h) hs0 (Or.inl ⟨by rfl, by (intro W hW; obtain ⟨s0, s1, ⟨s2, s3⟩, ⟨s4, s5⟩⟩ := hW; go_simp)⟩) ?_
                  simp only [Act.put, List.setIfInBounds_toArray, List.set_cons_succ, List.set_cons_zero]
                  refine wpAnyY_takeD (i := 9) 119 (v := .agg #[.int .i64 p.1, .int .i64 p.2]) rfl rfl (by kernel_rfl) (by kernel_rfl) (late_of (by kernel_rfl)) (by kernel_rfl) (by kernel_rfl) (fun _ _ _ h => h) hs0 (Or.inl ⟨by rfl, by (intro W hW; obtain ⟨s0, s1, ⟨s2, s3⟩, ⟨s4, s5⟩⟩ := hW; go_simp)⟩) ?_
                  simp only [Act.put, List.setIfInBounds_toArray, List.set_cons_succ, List.set_cons_zero]
                  refine wpAnyY_one (i := 10) rfl (by kernel_rfl) (fun Kc hKc => ?_)
                  go_simp
                  refine hKc.out _ _ (fun _ h => h) ?_
                  clear hKc Kc
                  refine wpAnyY_done (by kernel_rfl) ?_ _
                  clear hs0 d1 d2 l1 l2
                  have HN : Hid (T2 w #[.int .i64 x.letters, .slice da1 dn dc1, .slice sa1 sn sc1, .int .i64 x.beg, .int .i64 x.fin, .int .i64 x.front, .int .i64 x.back, .bool x.banded, .int .i64 x.lo, .int .i64 x.hi, .slice ta1 tn tc1] #[.int .i64 x.letters, .slice da2 dn dc2, .slice sa2 sn sc2, .int .i64 x.beg, .int .i64 x.fin, .int .i64 x.front, .int .i64 x.back, .bool x.banded, .int .i64 x.lo, .int .i64 x.hi, .slice ta2 tn tc2] wr.drew ∧ wr.drew.heap[wo.heap.size]? = some (.cells #[.int .i64 s.1, .slice (some ⟨y1, q1, none⟩) en ec1] 39 (0, 0)) ∧ wr.drew.heap[wo.heap.size + 1]? = some (.cells #[.int .i64 s.1, .slice (some ⟨y2, q2, none⟩) en ec2] 39 (0, 0)) ∧ Below wo.heap.size wo wr.drew) := ⟨HZ.out.1.drew, HZ.out.2.1, HZ.out.2.2.1, HZ.out.2.2.2.drew⟩
                  clear HZ
                  go_wp2
                  go_roundg (gk - 1)
                  case measure => omega
                  case rel => exact ⟨z + 1, by omega, by go_num, HN.out⟩
                · have hz0 : decide ((z : Int) < (en : Int)) = false := by simp; omega
                  have l1 : wr.cell? ⟨wo.heap.size, 1, none⟩ = some (.slice ea1 en ec1) := blk HZ.out.2.1 rfl
                  have HN : Hid (T2 w #[.int .i64 x.letters, .slice da1 dn dc1, .slice sa1 sn sc1, .int .i64 x.beg, .int .i64 x.fin, .int .i64 x.front, .int .i64 x.back, .bool x.banded, .int .i64 x.lo, .int .i64 x.hi, .slice ta1 tn tc1] #[.int .i64 x.letters, .slice da2 dn dc2, .slice sa2 sn sc2, .int .i64 x.beg, .int .i64 x.fin, .int .i64 x.front, .int .i64 x.back, .bool x.banded, .int .i64 x.lo, .int .i64 x.hi, .slice ta2 tn tc2] wr) := HZ.out.1
                  clear HZ
                  go_wp2
                  go_roundg (gO - 1)
                  case measure => omega
                  case rel => exact ⟨i + 1, by omega, by go_num, HN.out⟩
            · have hk0 : decide ((i : Int) < (tn : Int)) = false := by simp; omega
              obtain ⟨_, _, _, _, c5, c6⟩ := HC.out wo HT.out
              have e1_0 : wo.cell? ⟨w.heap.size, 0, none⟩ = some (.int .i64 x.letters) := blk HT.out.b1 rfl
              have e1_3 : wo.cell? ⟨w.heap.size, 3, none⟩ = some (.int .i64 x.beg) := blk HT.out.b1 rfl
              have e1_4 : wo.cell? ⟨w.heap.size, 4, none⟩ = some (.int .i64 x.fin) := blk HT.out.b1 rfl
              have e1_5 : wo.cell? ⟨w.heap.size, 5, none⟩ = some (.int .i64 x.front) := blk HT.out.b1 rfl
              have e1_6 : wo.cell? ⟨w.heap.size, 6, none⟩ = some (.int .i64 x.back) := blk HT.out.b1 rfl
              have e1_7 : wo.cell? ⟨w.heap.size, 7, none⟩ = some (.bool x.banded) := blk HT.out.b1 rfl
              have e1_8 : wo.cell? ⟨w.heap.size, 8, none⟩ = some (.int .i64 x.lo) := blk HT.out.b1 rfl
              have e1_9 : wo.cell? ⟨w.heap.size, 9, none⟩ = some (.int .i64 x.hi) := blk HT.out.b1 rfl
              have e2_0 : wo.cell? ⟨w.heap.size + 1, 0, none⟩ = some (.int .i64 x.letters) := blk HT.out.b2 rfl
              have e2_3 : wo.cell? ⟨w.heap.size + 1, 3, none⟩ = some (.int .i64 x.beg) := blk HT.out.b2 rfl
              have e2_4 : wo.cell? ⟨w.heap.size + 1, 4, none⟩ = some (.int .i64 x.fin) := blk HT.out.b2 rfl
              have e2_5 : wo.cell? ⟨w.heap.size + 1, 5, none⟩ = some (.int .i64 x.front) := blk HT.out.b2 rfl
              have e2_6 : wo.cell? ⟨w.heap.size + 1, 6, none⟩ = some (.int .i64 x.back) := blk HT.out.b2 rfl
              have e2_7 : wo.cell? ⟨w.heap.size + 1, 7, none⟩ = some (.bool x.banded) := blk HT.out.b2 rfl
              have e2_8 : wo.cell? ⟨w.heap.size + 1, 8, none⟩ = some (.int .i64 x.lo) := blk HT.out.b2 rfl
              have e2_9 : wo.cell? ⟨w.heap.size + 1, 9, none⟩ = some (.int .i64 x.hi) := blk HT.out.b2 rfl
              go_wp2
              go_ret
              exact ⟨rfl, HT.out.low⟩
end Go.Proofs.Ytolehoibpnenlab
