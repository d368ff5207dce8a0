/-
  The walk of the document's Widest.
-/
import Derived.Test.YtegndeefddlccaaBdE
namespace Go.Proofs.Ytegndeefddlccaa
open Go.RowKit

theorem max3' (ts : Array TypeId) (t : TypeId) (a b c : Int) (W : World) : (Builtin.max_ ts t #[.int .i64 a, .int .i64 b, .int .i64 c]).run Try.prog W = .ok (.int .i64 (max (max a b) c)) W := by
  rw [Go.run_max_int3]
  congr 2
  split <;> split <;> omega
theorem max2' (ts : Array TypeId) (t : TypeId) (a b : Int) (W : World) : (Builtin.max_ ts t #[.int .i64 a, .int .i64 b]).run Try.prog W = .ok (.int .i64 (max a b)) W := by
  rw [Go.run_max_int2]
  congr 2
  split <;> omega
theorem max2w (ts : Array TypeId) (t : TypeId) (v a x : Int) (W : World) : (Builtin.max_ ts t #[.int .i64 v, .int .i64 (a + x)]).run Try.prog W = .ok (.int .i64 (max v (a + x))) W := max2' ..

/-- How far the first loop has come: the widest of the first ends, and of so many numbers. -/
def widS (m : Md) (k : Nat) : Int := max (max (max 1 m.front) m.back) (widN (m.subst.take k))
theorem widS_snoc (m : Md) (k : Nat) (h : k < m.subst.length) : widS m (k + 1) = wmax (widS m k) (m.subst.getD k 0) := by
  unfold widS
  rw [take_snocD _ _ _ (getD_some h), widN_snoc]
  unfold wmax
  omega
theorem widS_zero (m : Md) : widS m 0 = max (max 1 m.front) m.back := by
  unfold widS
  show max _ (0 : Int) = _
  omega

set_option maxHeartbeats 400000 in
theorem widestR_no (m : Md) (sa : Option Addr) (sn sc : Nat) (ga : Option Addr) (gn gc : Nat) (w : World) (h : MdAt w m sa sn ga gn) (hr : rightM m = false) :
    Calls Try.prog 64 #[.agg (mdCells m sa sn sc ga gn gc)] w fun e w' => widPost m w e w' := by
  have HM : Hid (MdAt w m sa sn ga gn) := h
  have HR : Hid (rightM m = false) := hr
  clear h hr
  rw [show mdCells m sa sn sc ga gn gc = #[.int .i64 m.letters, .slice sa sn sc, .slice ga gn gc, .int .i64 m.mode, .bool m.banded, .int .i64 m.lo, .int .i64 m.hi, .int .i64 m.front, .int .i64 m.back, .int .i64 m.least] from rfl]
  go_enter Try.func64, Try.ntmps64
  go_wp2_with fail
  refine (rightR_calls m sa sn sc ga gn gc _ (HM.out.below ((Below.refl _ _).alloc (Nat.le_refl _) _))).mono ?_
  rintro e w1 ⟨rfl, hb⟩
  rw [HR.out]
  have HB : Hid (Below w.heap.size w w1) := ((Bx.start w (mdCells m sa sn sc ga gn gc)).next hb).low
  clear hb
  go_wp2
  go_ret2
  unfold widPost
  rw [HR.out]
  exact ⟨rfl, HB.out⟩

set_option maxHeartbeats 1000000 in
theorem widestR_yes (m : Md) (sa : Option Addr) (sn sc : Nat) (ga : Option Addr) (gn gc : Nat) (w : World) (h : MdAt w m sa sn ga gn) (hr : rightM m = true) :
    Calls Try.prog 64 #[.agg (mdCells m sa sn sc ga gn gc)] w fun e w' => widPost m w e w' := by
  have hg := h.gaps.short
  have hsn := h.subst.short
  unfold maxLen at hg hsn
  have HM : Hid (MdAt w m sa sn ga gn) := h
  have HR : Hid (rightM m = true) := hr
  have HQ : Hid (RightM m) := rightM_out hr
  clear h hr
  rw [show mdCells m sa sn sc ga gn gc = #[.int .i64 m.letters, .slice sa sn sc, .slice ga gn gc, .int .i64 m.mode, .bool m.banded, .int .i64 m.lo, .int .i64 m.hi, .int .i64 m.front, .int .i64 m.back, .int .i64 m.least] from rfl]
  go_enter Try.func64, Try.ntmps64
  go_wp2_with fail
  refine (rightR_calls m sa sn sc ga gn gc _ (HM.out.below ((Below.refl _ _).alloc (Nat.le_refl _) _))).mono ?_
  rintro e w1 ⟨rfl, hb⟩
  rw [HR.out]
  have HX : Hid (Bx w (mdCells m sa sn sc ga gn gc) w1) := (Bx.start w (mdCells m sa sn sc ga gn gc)).next hb
  clear hb
  have c7 := HX.out.cell 7 (.int .i64 m.front) rfl
  have c8 := HX.out.cell 8 (.int .i64 m.back) rfl
  have hmx := fun ts t (W : World) => max3' ts t 1 m.front m.back W
  have H0 : Hid (widS m 0 = max (max 1 m.front) m.back) := widS_zero m
  generalize max (max 1 m.front) m.back = v0 at *
  go_wp2
  clear c7 c8 hmx
  go_loopw [5, 6] (fun v i wr => ∃ k : Nat, k ≤ sn ∧ i = .int .i64 k ∧ v = .int .i64 (widS m k) ∧ Bx w (mdCells m sa sn sc ga gn gc) wr) (fun _ i _ => sn - (intOf i).toNat)
  case atStart => exact ⟨0, Nat.zero_le _, rfl, by rw [H0.out], HX.out⟩
  case round =>
    obtain ⟨k, hk, rfl, rfl, hbx⟩ := hrel
    have HX1 : Hid (Bx w (mdCells m sa sn sc ga gn gc) wr) := hbx
    clear hbx HX
    by_cases hlt : k < sn
    · obtain ⟨b, off, rfl, hcs⟩ := (HM.out.subst.below HX1.out.low).cells (by omega)
      have hc1 := hcs k hlt
      have hzl := HM.out.subst.length
      have hbd := HQ.out.substs _ (getD_mem (zs := m.subst) (k := k) (by omega))
      have HT : Hid (widS m (k + 1) = wmax (widS m k) (m.subst.getD k 0)) := widS_snoc m k (by omega)
      clear hcs hzl
      have c1 := HX1.out.cell 1 (.slice (some ⟨b, off, none⟩) sn sc) rfl
      generalize m.subst.getD k 0 = z at *
      generalize widS m k = v at *
      go_wp2_with fail
      go_region_held3 (fun W => W.cell? ⟨w.heap.size, 1, none⟩ = some (.slice (some ⟨b, off, none⟩) sn sc) ∧ W.cell? ⟨b, off + k, none⟩ = some (.int .i64 z)) (first | with_reducible assumption | exact ⟨by assumption, by assumption⟩) (fail)
      go_wp2
      go_roundw
      case rel =>
        refine ⟨k + 1, by omega, by go_num, ?_, HX1.out.drew⟩
        have e : IntKind.i64.wrap (-z) = -z := (IntWalk.i64_left _).trans (by unfold wrap64; omega)
        rw [HT.out, e]
        exact int_eq (by unfold wmax; split <;> split <;> omega)
      case measure => simp [intOf]; omega
    · have HE : Hid (widS m k = wid0 m) := by
        have := wid0_eq m HQ.out.front.1 HQ.out.back.1
        show widS m k = _
        rw [this]
        unfold widS
        rw [List.take_of_length_le (by rw [HM.out.subst.length]; omega)]
      rw [HE.out]
      have c1 := HX1.out.cell 1 (.slice sa sn sc) rfl
      go_wp2
      clear c1
      go_loopw [5, 7] (fun v i wr => ∃ k : Nat, k ≤ gn ∧ i = .int .i64 k ∧ v = .int .i64 (widG (m.gaps.take k) (wid0 m)) ∧ Bx w (mdCells m sa sn sc ga gn gc) wr) (fun _ i _ => gn - (intOf i).toNat)
      case atStart => exact ⟨0, Nat.zero_le _, rfl, rfl, HX1.out⟩
      case round =>
        obtain ⟨k, hk, rfl, rfl, hbx⟩ := hrel
        have HX : Hid (Bx w (mdCells m sa sn sc ga gn gc) wr) := hbx
        clear hbx HX1
        by_cases hlt : k < gn
        · obtain ⟨g, hgk⟩ := get_lt (l := m.gaps) (k := k) (by rw [HM.out.gaps.length]; exact hlt)
          obtain ⟨b, off, rfl, hcs⟩ := (HM.out.gaps.below HX.out.low).cells (by omega)
          obtain ⟨d1, d2⟩ := hcs k g hgk
          have hT : widG (m.gaps.take (k + 1)) (wid0 m) = max (widG (m.gaps.take k) (wid0 m)) (g.1 + g.2) := by
            rw [take_snocD _ _ _ hgk, widG_snoc]
          have hgb := HQ.out.gap g (List.mem_of_getElem? hgk)
          have HT : Hid (widG (m.gaps.take (k + 1)) (wid0 m) = max (widG (m.gaps.take k) (wid0 m)) (g.1 + g.2)) := hT
          clear hcs hgk hT
          obtain ⟨a, x⟩ := g
          simp only at d1 d2 hgb
          obtain ⟨⟨ha1, ha2⟩, hx1, hx2⟩ := hgb
          generalize widG (m.gaps.take k) (wid0 m) = v at *
          have c2 := HX.out.cell 2 (.slice (some ⟨b, off, none⟩) gn gc) rfl
          go_wp2_with fail
          go_region_held3 (fun W => W.cell? ⟨w.heap.size, 2, none⟩ = some (.slice (some ⟨b, off, none⟩) gn gc) ∧ W.cell? ⟨b, off + k * 2, none⟩ = some (.int .i64 a) ∧ W.cell? ⟨b, off + k * 2 + 1, none⟩ = some (.int .i64 x)) (first | with_reducible assumption | exact ⟨by assumption, by assumption, by assumption⟩) (fail)
          go_wp2
          go_roundw
          case rel =>
            refine ⟨k + 1, by omega, by go_num, ?_, HX.out.drew⟩
            have e : IntKind.i64.wrap (a + x) = a + x := (IntWalk.i64_left _).trans (by unfold wrap64; omega)
            rw [HT.out, e]
            exact int_eq (by split <;> omega)
          case measure => simp [intOf]; omega
        · have HE : Hid (widG (m.gaps.take k) (wid0 m) = wid m) := by
            show _ = widG m.gaps (wid0 m)
            rw [List.take_of_length_le (by rw [HM.out.gaps.length]; omega)]
          rw [HE.out]
          have c2 := HX.out.cell 2 (.slice ga gn gc) rfl
          go_wp2
          go_ret2
          unfold widPost
          rw [HR.out]
          exact ⟨rfl, HX.out.low⟩
theorem widestR_model (m : Md) (sa : Option Addr) (sn sc : Nat) (ga : Option Addr) (gn gc : Nat) (w : World) (h : MdAt w m sa sn ga gn) :
    Calls Try.prog 64 #[.agg (mdCells m sa sn sc ga gn gc)] w fun e w' => widPost m w e w' := by
  cases hr : rightM m
  · exact widestR_no m sa sn sc ga gn gc w h hr
  · exact widestR_yes m sa sn sc ga gn gc w h hr
end Go.Proofs.Ytegndeefddlccaa
