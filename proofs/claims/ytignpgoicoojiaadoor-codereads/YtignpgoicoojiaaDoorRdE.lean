/-
  The walks of code and sealed where the reader is wrong; Decode of too few bytes.
-/
import Derived.Test.YtignpgoicoojiaaDoorRdD
import Derived.Test.YtignpgoicoojiaaDoorDrw
import Derived.Deep.Cut
namespace Go.Proofs.YtignpgoicoojiaaDoor
open Go.RowKit

theorem numR_bad (t : List UInt8) (a : Nat) : numR t (a, true) = (0, (a, true)) := by
  have h : nextR t (a, true) = (0, (a, true)) := by rw [nextR, if_pos (by simp)]
  rw [numR, numGo_end (by rw [h]; show ¬ 128 ≤ (0 : UInt8).toNat; decide), h]; simp [hlv]
theorem upR_bad (t : List UInt8) (m : Int) (a : Nat) : upR t m (a, true) = (0, (a, true)) := by
  rw [upR, numR_bad, if_pos (.inl rfl)]
def zC (v6 v7 v8 v9 : Value) : Array Value := #[.int .i64 0, .int .i64 0, .int .i64 0, .int .i64 0, .int .i64 0, .int .i64 0, v6, v7, v8, v9]
/-- The boxes of code, beside the reader's. -/
structure CB (w : World) (b : Nat) (s : ByteArray) (st : Sr) (g0 g pb : Nat) (cs : Array Value) (wq : World) : Prop where
  rd : Rd wq b s st
  gr : w.grownBy wq (some b)
  r0 : wq.heap[g0]? = some (.cells (zC (.slice none 0 0) (.slice none 0 0) (.slice none 0 0) (.slice none 0 0)) 26 (0, 0))
  r1 : wq.heap[g]? = some (.cells cs 26 (0, 0))
  r2 : wq.heap[pb]? = some (.cells #[.pointer (some ⟨g, 1, none⟩), .pointer (some ⟨g, 2, none⟩), .pointer (some ⟨g, 3, none⟩), .pointer (some ⟨g, 4, none⟩), .pointer (some ⟨g, 5, none⟩)] 85 (0, 0))
  n0 : w.heap.size ≤ g0
  n1 : w.heap.size ≤ g
  ne : g0 ≠ g
theorem CB.next {w : World} {b : Nat} {s : ByteArray} {st st2 : Sr} {g0 g pb : Nat} {cs : Array Value} {wq w1 : World} (h : CB w b s st g0 g pb cs wq) (hr : Rd w1 b s st2) (hg : wq.grownBy w1 (some b)) : CB w b s st2 g0 g pb cs w1 := by
  have key : ∀ {k : Nat} {c : Array Value} {t : TypeId}, t ≠ 56 → wq.heap[k]? = some (.cells c t (0, 0)) → w1.heap[k]? = some (.cells c t (0, 0)) := fun ht hk => by
    rw [hg.block _ (lt_block hk) (fun e => by cases e; rw [h.rd.box] at hk; cases hk; exact ht rfl)]; exact hk
  exact ⟨hr, grown_trans h.gr hg, key (by decide) h.r0, key (by decide) h.r1, key (by decide) h.r2, h.n0, h.n1, h.ne⟩
theorem CB.set {w : World} {b : Nat} {s : ByteArray} {st : Sr} {g0 g pb : Nat} {cs cs2 : Array Value} {wq : World} (h : CB w b s st g0 g pb cs wq) (i : Nat) (v : Value) (hc : cs.setIfInBounds i v = cs2) : CB w b s st g0 g pb cs2 (wq.setCell ⟨g, i, none⟩ v) := by
  have hg := grown_set wq g i v
  have key : ∀ {k : Nat} {c : Array Value} {t : TypeId}, k ≠ g → wq.heap[k]? = some (.cells c t (0, 0)) → (wq.setCell ⟨g, i, none⟩ v).heap[k]? = some (.cells c t (0, 0)) := fun hk hh => by
    rw [hg.block _ (lt_block hh) (fun e => by cases e; exact hk rfl)]; exact hh
  refine ⟨h.rd.other hg (fun e => ?_), grown_new h.gr h.n1 i v, key h.ne h.r0, by rw [heap_setCell_same wq g i cs 26 v h.r1, hc], key (fun e => ?_) h.r2, h.n0, h.n1, h.ne⟩
  · cases e
    have h1 := h.rd.box
    rw [h.r1] at h1; cases h1
  · have h1 := h.r2
    rw [e, h.r1] at h1; cases h1
theorem CB.ptr {w : World} {b : Nat} {s : ByteArray} {st : Sr} {g0 g pb : Nat} {cs : Array Value} {wq : World} (h : CB w b s st g0 g pb cs wq) {k : Nat} (hk : k < 5) : wq.cell? ⟨pb, k, none⟩ = some (.pointer (some ⟨g, k + 1, none⟩)) := by
  refine cell_block h.r2 k _ ?_
  match k, hk with
  | 0, _ | 1, _ | 2, _ | 3, _ | 4, _ => rfl
  | k + 5, h => exact absurd h (by omega)
theorem CB.num {w : World} {b : Nat} {s : ByteArray} {st : Sr} {g0 g pb : Nat} {v6 v7 v8 v9 : Value} {wq : World} (h : CB w b s st g0 g pb (zC v6 v7 v8 v9) wq) {k : Nat} (hk : k < 5) : wq.cell? ⟨g, k + 1, none⟩ = some (.int .i64 0) ∧ (zC v6 v7 v8 v9).setIfInBounds (k + 1) (.int .i64 0) = zC v6 v7 v8 v9 := by
  match k, hk with
  | 0, _ | 1, _ | 2, _ | 3, _ | 4, _ => exact ⟨cell_block h.r1 _ _ rfl, rfl⟩
  | k + 5, h => exact absurd h (by omega)
theorem CB.fz {w : World} {b : Nat} {s : ByteArray} {st : Sr} {g0 g pb : Nat} {cs : Array Value} {wq : World} (h : CB w b s st g0 g pb cs wq) (i : Nat) : wq.frozen? ⟨g, i, none⟩ = false := frozen_of_row wq g i _ _ h.r1

theorem grown_ten (wq : World) (g0 : Nat) (v0 v1 v2 v3 v4 v5 v6 v7 v8 v9 : Value) : wq.grownBy ((((((((((wq.setCell ⟨g0, 0, none⟩ v0).setCell ⟨g0, 1, none⟩ v1).setCell ⟨g0, 2, none⟩ v2).setCell ⟨g0, 3, none⟩ v3).setCell ⟨g0, 4, none⟩ v4).setCell ⟨g0, 5, none⟩ v5).setCell ⟨g0, 6, none⟩ v6).setCell ⟨g0, 7, none⟩ v7).setCell ⟨g0, 8, none⟩ v8).setCell ⟨g0, 9, none⟩ v9) (some g0) :=
  grown_trans (grown_trans (grown_trans (grown_trans (grown_trans (grown_trans (grown_trans (grown_trans (grown_trans (grown_set _ _ _ _) (grown_set _ _ _ _)) (grown_set _ _ _ _)) (grown_set _ _ _ _)) (grown_set _ _ _ _)) (grown_set _ _ _ _)) (grown_set _ _ _ _)) (grown_set _ _ _ _)) (grown_set _ _ _ _)) (grown_set _ _ _ _)
theorem ten_keep {w : World} {b : Nat} {s : ByteArray} {st : Sr} {g0 g pb : Nat} {cs : Array Value} {wq : World} (h : CB w b s st g0 g pb cs wq) (v0 v1 v2 v3 v4 v5 v6 v7 v8 v9 : Value) : Rd ((((((((((wq.setCell ⟨g0, 0, none⟩ v0).setCell ⟨g0, 1, none⟩ v1).setCell ⟨g0, 2, none⟩ v2).setCell ⟨g0, 3, none⟩ v3).setCell ⟨g0, 4, none⟩ v4).setCell ⟨g0, 5, none⟩ v5).setCell ⟨g0, 6, none⟩ v6).setCell ⟨g0, 7, none⟩ v7).setCell ⟨g0, 8, none⟩ v8).setCell ⟨g0, 9, none⟩ v9) b s st ∧ w.grownBy ((((((((((wq.setCell ⟨g0, 0, none⟩ v0).setCell ⟨g0, 1, none⟩ v1).setCell ⟨g0, 2, none⟩ v2).setCell ⟨g0, 3, none⟩ v3).setCell ⟨g0, 4, none⟩ v4).setCell ⟨g0, 5, none⟩ v5).setCell ⟨g0, 6, none⟩ v6).setCell ⟨g0, 7, none⟩ v7).setCell ⟨g0, 8, none⟩ v8).setCell ⟨g0, 9, none⟩ v9) (some b) := by
  have hg := grown_ten wq g0 v0 v1 v2 v3 v4 v5 v6 v7 v8 v9
  have hne : b ≠ g0 := fun e => by
    have h1 := h.rd.box
    rw [e, h.r0] at h1; cases h1
  refine ⟨h.rd.other hg (fun e => by cases e; exact hne rfl), ?_⟩
  exact ⟨hg.os.trans h.gr.os, hg.tape.trans h.gr.tape, hg.output.trans h.gr.output, Nat.le_trans h.gr.size hg.size, fun k hk hr => (hg.block k (Nat.lt_of_lt_of_le hk h.gr.size) (by intro e; cases e; have := h.n0; omega)).trans (h.gr.block k hk hr)⟩

set_option maxHeartbeats 2000000 in
theorem codeBad (b : Nat) (s : ByteArray) (at0 : Nat) (w : World) (h : Rd w b s (at0, true)) :
    Calls Tryd.prog 44 #[.pointer (some ⟨b, 0, none⟩)] w fun e w' => ∃ g1 g2 g3 g4, e = .returned (.agg #[.int .i64 0, .int .i64 0, .int .i64 0, .int .i64 0, .int .i64 0, .int .i64 0, .slice (some ⟨g1, 0, none⟩) 0 0, .slice (some ⟨g2, 0, none⟩) 0 0, .slice (some ⟨g3, 0, none⟩) 0 0, .slice (some ⟨g4, 0, none⟩) 0 0]) ∧ Rd w' b s (at0, true) ∧ w.grownBy w' (some b) := by
  have hbl : b < w.heap.size := lt_block h.box
  have HR : Hid (Rd w b s (at0, true)) := h
  clear h
  go_enter Tryd.func44, Tryd.ntmps44
  go_wp2_with fail
  refine (upTo_calls b s (at0, true) 20 _ (HR.out.other (grown_below (r := none) (below_new _)) (by simp))).mono ?_
  rintro e w1 ⟨rfl, hr1, hg1⟩
  rw [upR_bad] at hr1 ⊢
  have H0 : Hid (w1.heap[w.heap.size]? = some (.cells (zC (.slice none 0 0) (.slice none 0 0) (.slice none 0 0) (.slice none 0 0)) 26 (0, 0)) ∧ w.grownBy w1 (some b) ∧ Rd w1 b s (at0, true) ∧ w.heap.size < w1.heap.size) := by
    refine ⟨?_, grown_trans (grown_below (below_new _)) hg1, hr1, Nat.lt_of_lt_of_le (by simp) hg1.size⟩
    rw [hg1.block _ (by simp) (fun e => by cases e; omega), heap_alloc_new]; rfl
  clear hr1 hg1 HR
  obtain ⟨g0, hg0⟩ : ∃ g0, w.heap.size = g0 := ⟨_, rfl⟩
  have HG0 : Hid (w.heap.size = g0) := hg0
  rw [hg0] at H0 hbl
  clear hg0
  rw [HG0.out]
  go_wp2
  have HCB : Hid (CB w b s (at0, true) g0 w1.heap.size (w1.heap.size + 1) (zC (.slice none 0 0) (.slice none 0 0) (.slice none 0 0) (.slice none 0 0)) ((w1.alloc (.cells #[.int .i64 0, .int .i64 0, .int .i64 0, .int .i64 0, .int .i64 0, .int .i64 0, .slice none 0 0, .slice none 0 0, .slice none 0 0, .slice none 0 0] 26)).alloc (.cells #[.pointer (some ⟨w1.heap.size, 1, none⟩), .pointer (some ⟨w1.heap.size, 2, none⟩), .pointer (some ⟨w1.heap.size, 3, none⟩), .pointer (some ⟨w1.heap.size, 4, none⟩), .pointer (some ⟨w1.heap.size, 5, none⟩)] 85))) := by
    obtain ⟨k0, k1, k2, k3⟩ := H0.out
    have hb2 : Below w1.heap.size w1 ((w1.alloc (.cells #[.int .i64 0, .int .i64 0, .int .i64 0, .int .i64 0, .int .i64 0, .int .i64 0, .slice none 0 0, .slice none 0 0, .slice none 0 0, .slice none 0 0] 26)).alloc (.cells #[.pointer (some ⟨w1.heap.size, 1, none⟩), .pointer (some ⟨w1.heap.size, 2, none⟩), .pointer (some ⟨w1.heap.size, 3, none⟩), .pointer (some ⟨w1.heap.size, 4, none⟩), .pointer (some ⟨w1.heap.size, 5, none⟩)] 85)) := below_al2 (Nat.le_refl _) _ _
    refine ⟨k2.other (grown_below (r := none) hb2) (by simp), grown_trans k1 (grown_below hb2), by rw [hb2.block _ (lt_block k0)]; exact k0, ?_, ?_, by rw [HG0.out]; exact Nat.le_refl _, by rw [HG0.out]; omega, by omega⟩
    · rw [(below_new _).block _ (by simp), heap_alloc_new]; rfl
    · rw [show w1.heap.size + 1 = (w1.alloc (.cells #[.int .i64 0, .int .i64 0, .int .i64 0, .int .i64 0, .int .i64 0, .int .i64 0, .slice none 0 0, .slice none 0 0, .slice none 0 0, .slice none 0 0] 26)).heap.size by simp, heap_alloc_new]
  clear H0
  obtain ⟨g, hg⟩ : ∃ g, w1.heap.size = g := ⟨_, rfl⟩
  have HG : Hid (w1.heap.size = g) := hg
  rw [hg] at HCB
  clear hg
  rw [HG.out]
  go_loopw [5, 16] (fun _ i wq => ∃ k : Nat, k ≤ 5 ∧ i = .int .i64 k ∧ CB w b s (at0, true) g0 g (g + 1) (zC (.slice none 0 0) (.slice none 0 0) (.slice none 0 0) (.slice none 0 0)) wq) (fun _ i _ => 5 - (intOf i).toNat)
  case atStart => exact ⟨0, by omega, rfl, HCB.out⟩
  case round =>
    obtain ⟨k, hk, rfl, hcb⟩ := hrel
    have HC : Hid (CB w b s (at0, true) g0 g (g + 1) (zC (.slice none 0 0) (.slice none 0 0) (.slice none 0 0) (.slice none 0 0)) wr) := hcb
    clear hcb HCB
    by_cases hlt : k < 5
    · have hp := HC.out.ptr hlt
      have hdk : decide ((k : Int) < 5) = true := by simp; omega
      go_wp2_with fail
      refine (number_calls b s (at0, true) wr HC.out.rd).mono ?_
      rintro e w2 ⟨rfl, hr2, hg2⟩
      rw [numR_bad] at hr2 ⊢
      have HC2 : Hid (CB w b s (at0, true) g0 g (g + 1) (zC (.slice none 0 0) (.slice none 0 0) (.slice none 0 0) (.slice none 0 0)) w2) := HC.out.next hr2 hg2
      obtain ⟨cn, hst⟩ := HC2.out.num hlt
      have fz := HC2.out.fz (k + 1)
      have HC3 : Hid (CB w b s (at0, true) g0 g (g + 1) (zC (.slice none 0 0) (.slice none 0 0) (.slice none 0 0) (.slice none 0 0)) (w2.setCell ⟨g, k + 1, none⟩ (.int .i64 0))) := HC2.out.set _ _ hst
      clear hr2 hg2 hst HC HC2
      go_wp2
      go_roundw
      case rel => exact ⟨k + 1, by omega, by go_num, HC3.out⟩
      case measure => simp [intOf]; omega
    · have hk5 : k = 5 := by omega
      subst hk5
      have c0 : wr.cell? ⟨g, 0, none⟩ = some (.int .i64 0) := cell_block HC.out.r1 0 _ rfl
      go_wp2_with fail
      refine (numbers_calls b s (at0, true) 0 wr HC.out.rd (by omega)).mono ?_
      rintro e w2 ⟨g1, rfl, _, hr2, hg2⟩
      have HC2 : Hid (CB w b s (at0, true) g0 g (g + 1) (zC (.slice none 0 0) (.slice none 0 0) (.slice none 0 0) (.slice none 0 0)) w2) := HC.out.next hr2 hg2
      clear hr2 hg2 HC c0
      obtain ⟨w3, hw3⟩ : ∃ w3, w2.setCell ⟨g, 6, none⟩ (.slice (some ⟨g1, 0, none⟩) 0 0) = w3 := ⟨_, rfl⟩
      have HW3 : Hid (w2.setCell ⟨g, 6, none⟩ (.slice (some ⟨g1, 0, none⟩) 0 0) = w3) := hw3
      have HC3 : Hid (CB w b s (at0, true) g0 g (g + 1) (zC (.slice (some ⟨g1, 0, none⟩) 0 0) (.slice none 0 0) (.slice none 0 0) (.slice none 0 0)) w3) := by rw [← hw3]; exact HC2.out.set _ _ rfl
      have c6 : w2.cell? ⟨g, 6, none⟩ = some (.slice none 0 0) := cell_block HC2.out.r1 6 _ rfl
      have f6 := HC2.out.fz 6
      clear hw3 HC2
      go_wp2_with fail
      rw [HW3.out]
      refine (upTo_calls b s (at0, true) 100 _ HC3.out.rd).mono ?_
      rintro e w4 ⟨rfl, hr2, hg2⟩
      rw [upR_bad] at hr2 ⊢
      have HC4 : Hid (CB w b s (at0, true) g0 g (g + 1) (zC (.slice (some ⟨g1, 0, none⟩) 0 0) (.slice none 0 0) (.slice none 0 0) (.slice none 0 0)) w4) := HC3.out.next hr2 hg2
      clear hr2 hg2 HC3
      go_wp2_with fail
      refine (numbers_calls b s (at0, true) 0 _ HC4.out.rd (by omega)).mono ?_
      rintro e w5 ⟨g2, rfl, _, hr2, hg2⟩
      have HC5 : Hid (CB w b s (at0, true) g0 g (g + 1) (zC (.slice (some ⟨g1, 0, none⟩) 0 0) (.slice none 0 0) (.slice none 0 0) (.slice none 0 0)) w5) := HC4.out.next hr2 hg2
      clear hr2 hg2 HC4
      obtain ⟨w6, hw3⟩ : ∃ w3, w5.setCell ⟨g, 7, none⟩ (.slice (some ⟨g2, 0, none⟩) 0 0) = w3 := ⟨_, rfl⟩
      have HW6 : Hid (w5.setCell ⟨g, 7, none⟩ (.slice (some ⟨g2, 0, none⟩) 0 0) = w6) := hw3
      have HC6 : Hid (CB w b s (at0, true) g0 g (g + 1) (zC (.slice (some ⟨g1, 0, none⟩) 0 0) (.slice (some ⟨g2, 0, none⟩) 0 0) (.slice none 0 0) (.slice none 0 0)) w6) := by rw [← hw3]; exact HC5.out.set _ _ rfl
      have c6 : w5.cell? ⟨g, 7, none⟩ = some (.slice none 0 0) := cell_block HC5.out.r1 7 _ rfl
      have f6 := HC5.out.fz 7
      clear hw3 HC5
      go_wp2_with fail
      rw [HW6.out]
      refine (upTo_calls b s (at0, true) 1000 _ HC6.out.rd).mono ?_
      rintro e w7 ⟨rfl, hr2, hg2⟩
      rw [upR_bad] at hr2 ⊢
      have HC7 : Hid (CB w b s (at0, true) g0 g (g + 1) (zC (.slice (some ⟨g1, 0, none⟩) 0 0) (.slice (some ⟨g2, 0, none⟩) 0 0) (.slice none 0 0) (.slice none 0 0)) w7) := HC6.out.next hr2 hg2
      clear hr2 hg2 HC6
      go_wp2_with fail
      refine (show QdsC 57 38 w7 b s (at0, true) 0 from cellZero b s _ _ HC7.out.rd).mono ?_
      rintro e w8 ⟨g3, rfl, _, hr2, hg2⟩
      have HC8 : Hid (CB w b s (at0, true) g0 g (g + 1) (zC (.slice (some ⟨g1, 0, none⟩) 0 0) (.slice (some ⟨g2, 0, none⟩) 0 0) (.slice none 0 0) (.slice none 0 0)) w8) := HC7.out.next hr2 hg2
      clear hr2 hg2 HC7
      obtain ⟨w9, hw3⟩ : ∃ w3, w8.setCell ⟨g, 8, none⟩ (.slice (some ⟨g3, 0, none⟩) 0 0) = w3 := ⟨_, rfl⟩
      have HW9 : Hid (w8.setCell ⟨g, 8, none⟩ (.slice (some ⟨g3, 0, none⟩) 0 0) = w9) := hw3
      have HC9 : Hid (CB w b s (at0, true) g0 g (g + 1) (zC (.slice (some ⟨g1, 0, none⟩) 0 0) (.slice (some ⟨g2, 0, none⟩) 0 0) (.slice (some ⟨g3, 0, none⟩) 0 0) (.slice none 0 0)) w9) := by rw [← hw3]; exact HC8.out.set _ _ rfl
      have c6 : w8.cell? ⟨g, 8, none⟩ = some (.slice none 0 0) := cell_block HC8.out.r1 8 _ rfl
      have f6 := HC8.out.fz 8
      clear hw3 HC8
      go_wp2_with fail
      rw [HW9.out]
      refine (upTo_calls b s (at0, true) 160 _ HC9.out.rd).mono ?_
      rintro e w10 ⟨rfl, hr2, hg2⟩
      rw [upR_bad] at hr2 ⊢
      have HC10 : Hid (CB w b s (at0, true) g0 g (g + 1) (zC (.slice (some ⟨g1, 0, none⟩) 0 0) (.slice (some ⟨g2, 0, none⟩) 0 0) (.slice (some ⟨g3, 0, none⟩) 0 0) (.slice none 0 0)) w10) := HC9.out.next hr2 hg2
      clear hr2 hg2 HC9
      go_wp2_with fail
      refine (show QdsC 58 40 w10 b s (at0, true) 0 from arrowsZero b s _ _ HC10.out.rd).mono ?_
      rintro e w11 ⟨g4, rfl, _, hr2, hg2⟩
      have HC11 : Hid (CB w b s (at0, true) g0 g (g + 1) (zC (.slice (some ⟨g1, 0, none⟩) 0 0) (.slice (some ⟨g2, 0, none⟩) 0 0) (.slice (some ⟨g3, 0, none⟩) 0 0) (.slice none 0 0)) w11) := HC10.out.next hr2 hg2
      clear hr2 hg2 HC10
      obtain ⟨w12, hw3⟩ : ∃ w3, w11.setCell ⟨g, 9, none⟩ (.slice (some ⟨g4, 0, none⟩) 0 0) = w3 := ⟨_, rfl⟩
      have HW12 : Hid (w11.setCell ⟨g, 9, none⟩ (.slice (some ⟨g4, 0, none⟩) 0 0) = w12) := hw3
      have HC12 : Hid (CB w b s (at0, true) g0 g (g + 1) (zC (.slice (some ⟨g1, 0, none⟩) 0 0) (.slice (some ⟨g2, 0, none⟩) 0 0) (.slice (some ⟨g3, 0, none⟩) 0 0) (.slice (some ⟨g4, 0, none⟩) 0 0)) w12) := by rw [← hw3]; exact HC11.out.set _ _ rfl
      have c6 : w11.cell? ⟨g, 9, none⟩ = some (.slice none 0 0) := cell_block HC11.out.r1 9 _ rfl
      have f6 := HC11.out.fz 9
      clear hw3 HC11
      have d0 : w12.cell? ⟨g, 0, none⟩ = some (.int .i64 0) := cell_block HC12.out.r1 0 _ rfl
      have d1 : w12.cell? ⟨g, 1, none⟩ = some (.int .i64 0) := cell_block HC12.out.r1 1 _ rfl
      have d2 : w12.cell? ⟨g, 2, none⟩ = some (.int .i64 0) := cell_block HC12.out.r1 2 _ rfl
      have d3 : w12.cell? ⟨g, 3, none⟩ = some (.int .i64 0) := cell_block HC12.out.r1 3 _ rfl
      have d4 : w12.cell? ⟨g, 4, none⟩ = some (.int .i64 0) := cell_block HC12.out.r1 4 _ rfl
      have d5 : w12.cell? ⟨g, 5, none⟩ = some (.int .i64 0) := cell_block HC12.out.r1 5 _ rfl
      have d6 : w12.cell? ⟨g, 6, none⟩ = some (.slice (some ⟨g1, 0, none⟩) 0 0) := cell_block HC12.out.r1 6 _ rfl
      have d7 : w12.cell? ⟨g, 7, none⟩ = some (.slice (some ⟨g2, 0, none⟩) 0 0) := cell_block HC12.out.r1 7 _ rfl
      have d8 : w12.cell? ⟨g, 8, none⟩ = some (.slice (some ⟨g3, 0, none⟩) 0 0) := cell_block HC12.out.r1 8 _ rfl
      have d9 : w12.cell? ⟨g, 9, none⟩ = some (.slice (some ⟨g4, 0, none⟩) 0 0) := cell_block HC12.out.r1 9 _ rfl
      have e0 : w12.cell? ⟨g0, 0, none⟩ = some (.int .i64 0) := cell_block HC12.out.r0 0 _ rfl
      have e1 : w12.cell? ⟨g0, 1, none⟩ = some (.int .i64 0) := cell_block HC12.out.r0 1 _ rfl
      have e2 : w12.cell? ⟨g0, 2, none⟩ = some (.int .i64 0) := cell_block HC12.out.r0 2 _ rfl
      have e3 : w12.cell? ⟨g0, 3, none⟩ = some (.int .i64 0) := cell_block HC12.out.r0 3 _ rfl
      have e4 : w12.cell? ⟨g0, 4, none⟩ = some (.int .i64 0) := cell_block HC12.out.r0 4 _ rfl
      have e5 : w12.cell? ⟨g0, 5, none⟩ = some (.int .i64 0) := cell_block HC12.out.r0 5 _ rfl
      have e6 : w12.cell? ⟨g0, 6, none⟩ = some (.slice none 0 0) := cell_block HC12.out.r0 6 _ rfl
      have e7 : w12.cell? ⟨g0, 7, none⟩ = some (.slice none 0 0) := cell_block HC12.out.r0 7 _ rfl
      have e8 : w12.cell? ⟨g0, 8, none⟩ = some (.slice none 0 0) := cell_block HC12.out.r0 8 _ rfl
      have e9 : w12.cell? ⟨g0, 9, none⟩ = some (.slice none 0 0) := cell_block HC12.out.r0 9 _ rfl
      have ef : ∀ i, w12.frozen? ⟨g0, i, none⟩ = false := fun i => frozen_of_row w12 _ i _ _ HC12.out.r0
      have hres : Tryd.f44.results = #[.cell 2 26] := by kernel_rfl
      go_upto_region 11 with (fail)
      rw [HW12.out]
      go_wp2
      refine bodyPost_ret (v := .agg #[.int .i64 0, .int .i64 0, .int .i64 0, .int .i64 0, .int .i64 0, .int .i64 0, .slice (some ⟨g1, 0, none⟩) 0 0, .slice (some ⟨g2, 0, none⟩) 0 0, .slice (some ⟨g3, 0, none⟩) 0 0, .slice (some ⟨g4, 0, none⟩) 0 0]) ?_ rfl ⟨g1, g2, g3, g4, rfl, ?_⟩
      · simp only [results, hres]
        go_simp
      · exact ten_keep HC12.out _ _ _ _ _ _ _ _ _ _

end Go.Proofs.YtignpgoicoojiaaDoor
