/-
  The walk of areNumbers.
-/
import Derived.Test.YtegndeefddlccaaBdA
namespace Go.Proofs.Ytegndeefddlccaa
open Go.RowKit

theorem two_new (W : World) (a b : Int) (g : Nat) (hg : g = W.heap.size) : IntsAt (W.alloc (.cells #[.int .i64 a, .int .i64 b] 3)) (some ⟨g, 0, none⟩) 2 [a, b] := by
  subst hg
  exact ints_new (zs := [a, b]) (heap_alloc_new W _) rfl (by unfold maxLen; simp)
theorem one_new (W : World) (a : Int) (g : Nat) (hg : g = W.heap.size) : IntsAt (W.alloc (.cells #[.int .i64 a] 3)) (some ⟨g, 0, none⟩) 1 [a] := by
  subst hg
  exact ints_new (zs := [a]) (heap_alloc_new W _) rfl (by unfold maxLen; simp)
theorem three_new (W : World) (a b c : Int) (g : Nat) (hg : g = W.heap.size) : IntsAt (W.alloc (.cells #[.int .i64 a, .int .i64 b, .int .i64 c] 3)) (some ⟨g, 0, none⟩) 3 [a, b, c] := by
  subst hg
  exact ints_new (zs := [a, b, c]) (heap_alloc_new W _) rfl (by unfold maxLen; simp)
theorem four_new (W : World) (a b c d : Int) (g : Nat) (hg : g = W.heap.size) : IntsAt (W.alloc (.cells #[.int .i64 a, .int .i64 b, .int .i64 c, .int .i64 d] 3)) (some ⟨g, 0, none⟩) 4 [a, b, c, d] := by
  subst hg
  exact ints_new (zs := [a, b, c, d]) (heap_alloc_new W _) rfl (by unfold maxLen; simp)

/-- The box of a model, and what was there ahead of it. -/
structure Bx (w : World) (cs : Array Value) (wr : World) : Prop where
  low : Below w.heap.size w wr
  size : w.heap.size < wr.heap.size
  box : wr.heap[w.heap.size]? = some (.cells cs 31 (0, 0))
theorem Bx.start (w : World) (cs : Array Value) : Bx w cs (w.alloc (.cells cs 31)) :=
  ⟨(Below.refl _ _).alloc (Nat.le_refl _) _, by simp, heap_alloc_new w _⟩
theorem Bx.next {w : World} {cs : Array Value} {wr w2 : World} (h : Bx w cs wr) (hb : Below wr.heap.size wr w2) : Bx w cs w2 :=
  ⟨h.low.trans (hb.mono h.low.size), Nat.lt_of_lt_of_le h.size hb.size, by rw [hb.block _ h.size]; exact h.box⟩
theorem Bx.alloc {w : World} {cs : Array Value} {wr : World} (h : Bx w cs wr) (o : Obj) : Bx w cs (wr.alloc o) :=
  h.next ((Below.refl _ _).alloc (Nat.le_refl _) _)
theorem Bx.cell {w : World} {cs : Array Value} {wr : World} (h : Bx w cs wr) (i : Nat) (v : Value) (hv : cs[i]? = some v) : wr.cell? ⟨w.heap.size, i, none⟩ = some v :=
  cell_block h.box i v hv
theorem beq0 (z : Int) : (z == 0) = decide (z = 0) := by rw [Bool.eq_iff_iff]; simp
theorem get_lt {α : Type} {l : List α} {k : Nat} (h : k < l.length) : ∃ x, l[k]? = some x := ⟨l[k], List.getElem?_eq_getElem h⟩

set_option maxHeartbeats 400000 in
theorem areNumbers_calls (m : Md) (sa : Option Addr) (sn sc : Nat) (ga : Option Addr) (gn gc : Nat) (w : World) (h : MdAt w m sa sn ga gn) :
    Calls Try.prog 71 #[.agg (mdCells m sa sn sc ga gn gc)] w fun e w' => e = .returned (.bool (numbersB m)) ∧ Below w.heap.size w w' := by
  have hg := h.gaps.short
  unfold maxLen at hg
  have HM : Hid (MdAt w m sa sn ga gn) := h
  have HN : Hid (numbersB m = (gapsB m.gaps && fromB 0 [m.front, m.back] && fromB (-72057594037927936) [m.least] && fromB (-72057594037927936) m.subst && bandB m)) := rfl
  have HBd : Hid (bandB m = if m.banded then fromB (-72057594037927936) [m.lo, m.hi] && decide (m.lo ≤ m.hi) else decide (m.lo = 0 ∧ m.hi = 0)) := rfl
  clear h
  rw [show mdCells m sa sn sc ga gn gc = #[.int .i64 m.letters, .slice sa sn sc, .slice ga gn gc, .int .i64 m.mode, .bool m.banded, .int .i64 m.lo, .int .i64 m.hi, .int .i64 m.front, .int .i64 m.back, .int .i64 m.least] from rfl]
  go_enter Try.func71, Try.ntmps71
  go_wp2
  go_loopw [4, 8] (fun _ i wr => ∃ k : Nat, k ≤ gn ∧ i = .int .i64 k ∧ (∀ j (g : Int × Int), j < k → m.gaps[j]? = some g → fromB 0 [g.1, g.2] = true) ∧ Bx w (mdCells m sa sn sc ga gn gc) wr) (fun _ i _ => gn - (intOf i).toNat)
  case atStart => exact ⟨0, Nat.zero_le _, rfl, fun j g hj => by omega, Bx.start _ _⟩
  case round =>
    obtain ⟨k, hk, rfl, hall, hbx⟩ := hrel
    have HA : Hid (∀ j (g : Int × Int), j < k → m.gaps[j]? = some g → fromB 0 [g.1, g.2] = true) := hall
    have HX : Hid (Bx w (mdCells m sa sn sc ga gn gc) wr) := hbx
    clear hall hbx
    by_cases hlt : k < gn
    · obtain ⟨g, hgk⟩ := get_lt (l := m.gaps) (k := k) (by rw [HM.out.gaps.length]; exact hlt)
      obtain ⟨b, off, rfl, hcs⟩ := (HM.out.gaps.below HX.out.low).cells (by omega)
      obtain ⟨c1, c2⟩ := hcs k g hgk
      have HG : Hid (m.gaps[k]? = some g) := hgk
      clear hcs hgk
      obtain ⟨a, x⟩ := g
      simp only at c1 c2
      generalize hr : fromB 0 [a, x] = r
      have HR : Hid (fromB 0 [a, x] = r) := hr
      clear hr
      go_wp2_with fail
      refine (areFrom_calls 0 _ _ _ [a, x] _ (two_new _ a x _ (by simp))).mono ?_
      rintro e w' ⟨rfl, rfl⟩
      rw [HR.out]
      have HX2 : Hid (Bx w (mdCells m sa sn sc (some ⟨b, off, none⟩) gn gc) ((wr.alloc (.cells #[.int .i64 a, .int .i64 x] 50)).alloc (.cells #[.int .i64 a, .int .i64 x] 3))) := (HX.out.alloc _).alloc _
      cases r
      · go_wp2
        go_ret
        exact ⟨ret_bool (by rw [HN.out, gapsB_bad k _ HG.out HR.out]; rfl), HX2.out.low⟩
      · go_wp2
        go_roundw
        case rel =>
          refine ⟨k + 1, by omega, by go_num, ?_, HX2.out⟩
          intro j g hj hjg
          by_cases e : j = k
          · subst e; rw [HG.out] at hjg; cases hjg; exact HR.out
          · exact HA.out j g (by omega) hjg
        case measure => simp [intOf]; omega
    · have HGs : Hid (gapsB m.gaps = true) := gapsB_all (fun j g hj => HA.out j g (by have := (List.getElem?_eq_some_iff.1 hj).1; rw [HM.out.gaps.length] at this; omega) hj)
      have hI := HM.out.subst.below HX.out.low
      have HI : Hid (IntsAt wr sa sn m.subst) := hI
      have c1 := HX.out.cell 1 (.slice sa sn sc) rfl
      have c4 := HX.out.cell 4 (.bool m.banded) rfl
      have c5 := HX.out.cell 5 (.int .i64 m.lo) rfl
      have c6 := HX.out.cell 6 (.int .i64 m.hi) rfl
      have c7 := HX.out.cell 7 (.int .i64 m.front) rfl
      have c8 := HX.out.cell 8 (.int .i64 m.back) rfl
      have c9 := HX.out.cell 9 (.int .i64 m.least) rfl
      clear hI HA
      have HN2 : Hid (numbersB m = (fromB 0 [m.front, m.back] && fromB (-72057594037927936) [m.least] && fromB (-72057594037927936) m.subst && if m.banded then fromB (-72057594037927936) [m.lo, m.hi] && decide (m.lo ≤ m.hi) else decide (m.lo = 0 ∧ m.hi = 0))) := by
        have := HN.out
        rw [HGs.out, HBd.out] at this
        exact this
      clear HBd HM HN HGs
      have HL : Hid (Below w.heap.size w wr) := HX.out.low
      have hsz : w.heap.size < wr.heap.size := HX.out.size
      have hsz2 : w.heap.size < wr.heap.size + 1 := by omega
      clear HX
      obtain ⟨L, su, gp, mo, bd, lo, hi, fr, bk, le⟩ := m
      simp only at c4 c5 c6 c7 c8 c9 HI
      have hr1 : ∃ r, fromB 0 [fr, bk] = r := ⟨_, rfl⟩
      have hr2 : ∃ r, fromB (-72057594037927936) [le] = r := ⟨_, rfl⟩
      have hr3 : ∃ r, fromB (-72057594037927936) su = r := ⟨_, rfl⟩
      have hr4 : ∃ r, fromB (-72057594037927936) [lo, hi] = r := ⟨_, rfl⟩
      obtain ⟨r1, hr1⟩ := hr1
      obtain ⟨r2, hr2⟩ := hr2
      obtain ⟨r3, hr3⟩ := hr3
      obtain ⟨r4, hr4⟩ := hr4
      have HNN : Hid (numbersB ⟨L, su, gp, mo, bd, lo, hi, fr, bk, le⟩ = (r1 && r2 && r3 && if bd then r4 && decide (lo ≤ hi) else decide (lo = 0 ∧ hi = 0))) := by
        have := HN2.out
        simp only [hr1, hr2, hr3, hr4] at this
        exact this
      have H1 : Hid (fromB 0 [fr, bk] = r1) := hr1
      have H2 : Hid (fromB (-72057594037927936) [le] = r2) := hr2
      have H3 : Hid (fromB (-72057594037927936) su = r3) := hr3
      have H4 : Hid (fromB (-72057594037927936) [lo, hi] = r4) := hr4
      clear hr1 hr2 hr3 hr4 HN2
      go_wp2_with fail
      refine (areFrom_calls 0 _ _ _ [fr, bk] _ (two_new _ fr bk _ (by simp))).mono ?_
      rintro e w' ⟨rfl, rfl⟩
      rw [H1.out]
      have HL1 : Hid (Below w.heap.size w (wr.alloc (.cells #[.int .i64 fr, .int .i64 bk] 3))) := HL.out.alloc HL.out.size _
      cases r1
      · go_wp2
        go_ret
        exact ⟨ret_bool (by rw [HNN.out]; rfl), HL1.out⟩
      go_wp2_with fail
      refine (areFrom_calls (-72057594037927936) _ _ _ [le] _ (one_new _ le _ (by simp))).mono ?_
      rintro e w' ⟨rfl, rfl⟩
      rw [H2.out]
      have HI2 : Hid (IntsAt ((wr.alloc (.cells #[.int .i64 fr, .int .i64 bk] 3)).alloc (.cells #[.int .i64 le] 3)) sa sn su) := HI.out.below (((Below.refl _ _).alloc (Nat.le_refl _) _).alloc (by simp) _)
      have HL2 : Hid (Below w.heap.size w ((wr.alloc (.cells #[.int .i64 fr, .int .i64 bk] 3)).alloc (.cells #[.int .i64 le] 3))) := HL1.out.alloc HL1.out.size _
      cases r2
      · go_wp2
        go_ret
        exact ⟨ret_bool (by rw [HNN.out]; rfl), HL2.out⟩
      go_wp2_with fail
      refine (areFrom_calls (-72057594037927936) _ _ _ su _ HI2.out).mono ?_
      rintro e w' ⟨rfl, rfl⟩
      rw [H3.out]
      cases r3
      · go_wp2
        go_ret
        exact ⟨ret_bool (by rw [HNN.out]; rfl), HL2.out⟩
      cases bd
      · by_cases h0 : lo = 0
        · subst h0
          have hb : ((0 : Int) == 0) = true := rfl
          go_wp2
          go_ret
          exact ⟨ret_bool (by rw [HNN.out]; simp; exact beq0 hi), HL2.out⟩
        · have hb : (lo == 0) = false := by simpa using h0
          go_wp2
          go_ret
          exact ⟨ret_bool (by rw [HNN.out]; simp [h0]), HL2.out⟩
      · go_wp2_with fail
        refine (areFrom_calls (-72057594037927936) _ _ _ [lo, hi] _ (two_new _ lo hi _ (by simp))).mono ?_
        rintro e w' ⟨rfl, rfl⟩
        rw [H4.out]
        have HL3 : Hid (Below w.heap.size w (((wr.alloc (.cells #[.int .i64 fr, .int .i64 bk] 3)).alloc (.cells #[.int .i64 le] 3)).alloc (.cells #[.int .i64 lo, .int .i64 hi] 3))) := HL2.out.alloc HL2.out.size _
        cases r4
        · go_wp2
          go_ret
          exact ⟨ret_bool (by rw [HNN.out]; rfl), HL3.out⟩
        · go_wp2
          go_ret
          exact ⟨ret_bool (by rw [HNN.out]; simp), HL3.out⟩

set_option maxHeartbeats 400000 in
theorem right_calls (m : Md) (sa : Option Addr) (sn sc : Nat) (ga : Option Addr) (gn gc : Nat) (w : World) (h : MdAt w m sa sn ga gn) :
    Calls Try.prog 68 #[.agg (mdCells m sa sn sc ga gn gc)] w fun e w' => e = .returned (.bool (rightM m)) ∧ Below w.heap.size w w' := by
  have HM : Hid (MdAt w m sa sn ga gn) := h
  clear h
  have HR : Hid (rightM m = (shapeB m && numbersB m)) := rfl
  generalize hq : shapeB m = q at HR
  have HQ : Hid (shapeB m = q) := hq
  clear hq
  rw [show mdCells m sa sn sc ga gn gc = #[.int .i64 m.letters, .slice sa sn sc, .slice ga gn gc, .int .i64 m.mode, .bool m.banded, .int .i64 m.lo, .int .i64 m.hi, .int .i64 m.front, .int .i64 m.back, .int .i64 m.least] from rfl]
  go_enter Try.func68, Try.ntmps68
  go_wp2_with fail
  refine (isShape_calls m sa sn sc ga gn gc _ (HM.out.below ((Below.refl _ _).alloc (Nat.le_refl _) _))).mono ?_
  rintro e w1 ⟨rfl, hb⟩
  rw [HQ.out]
  have HX : Hid (Bx w (mdCells m sa sn sc ga gn gc) w1) := (Bx.start w _).next hb
  clear hb
  cases q
  · go_wp2
    go_ret
    exact ⟨ret_bool (by rw [HR.out]; rfl), HX.out.low⟩
  · have c0 := HX.out.cell 0 (.int .i64 m.letters) rfl
    have c1 := HX.out.cell 1 (.slice sa sn sc) rfl
    have c2 := HX.out.cell 2 (.slice ga gn gc) rfl
    have c3 := HX.out.cell 3 (.int .i64 m.mode) rfl
    have c4 := HX.out.cell 4 (.bool m.banded) rfl
    have c5 := HX.out.cell 5 (.int .i64 m.lo) rfl
    have c6 := HX.out.cell 6 (.int .i64 m.hi) rfl
    have c7 := HX.out.cell 7 (.int .i64 m.front) rfl
    have c8 := HX.out.cell 8 (.int .i64 m.back) rfl
    have c9 := HX.out.cell 9 (.int .i64 m.least) rfl
    go_wp2_with fail
    refine (areNumbers_calls m sa sn sc ga gn gc _ (HM.out.below HX.out.low)).mono ?_
    rintro e w2 ⟨rfl, hb⟩
    have HX2 : Hid (Bx w (mdCells m sa sn sc ga gn gc) w2) := HX.out.next hb
    clear hb
    go_wp2
    go_ret
    exact ⟨ret_bool (by rw [HR.out]; rfl), HX2.out.low⟩
end Go.Proofs.Ytegndeefddlccaa
