/-
  BoundFits is proved for every input: of a model that may be no number is above the widest, sequences as long as may be stay within 2 to the power of 60, Most is 2 or more, and all there may be where no number is beyond 2 to the power of 20. Its condition is the row's own: what is handed in reads as data.
-/
import Derived.Test.YtaicppkhdfiokaaRows
import Derived.Test.YtaicppkhdfiokaaBdI
import Derived.Test.YtaicppkhdfiokaaBdO
import Derived.WalkKit
import Derived.ProofKit
import Derived.OpenShut
import Derived.ShutString
import Derived.ChangeOld
import Derived.Below
namespace Go.Proofs.Ytaicppkhdfiokaa
open Go.RowKit Go.Deep

theorem wid_small {m : Md} (hr : RightM m) (h1 : (∀ j, j < m.subst.length → -1048576 ≤ m.subst.getD j 0 ∧ m.subst.getD j 0 ≤ 1048576)) (h2 : (∀ (j : Nat) (g : Int × Int), j < m.gaps.length → m.gaps[j]? = some g → g.1 ≤ 1048576 ∧ g.2 ≤ 1048576)) (h3 : m.front ≤ 1048576) (h4 : m.back ≤ 1048576) : most (wid m) = 65536 := by
  have a : widN m.subst ≤ 1048576 := (widN_bd m.subst 1048576 (by omega) (fun n hn => by
    obtain ⟨j, hj, rfl⟩ := List.getElem_of_mem hn
    have := h1 j hj
    simpa only [List.getD, List.getElem?_eq_getElem hj, Option.getD_some] using this)).2
  have b : wid0 m ≤ 2097152 := by
    rw [wid0_eq m hr.front.1 hr.back.1]
    omega
  have c : wid m ≤ 2097152 := (widG_le m.gaps (wid0 m) 2097152 b (fun g hg => by
    obtain ⟨j, hj⟩ := List.getElem?_of_mem hg
    have := h2 j g (List.getElem?_eq_some_iff.1 hj).1 hj
    omega)).2
  have d := hr.wid.1
  unfold most
  have e : 274877906944 ≤ 576460752303423488 / wid m := (Int.le_ediv_iff_mul_le (by omega)).2 (by omega)
  omega
theorem wid_ge {m : Md} (hr : RightM m) : wid0 m ≤ wid m := (widG_le m.gaps (wid0 m) 144115188075855872 (by have := hr.wid0; omega) (fun g hg => by have := hr.gap g hg; omega)).1
theorem wid_sub {m : Md} (hr : RightM m) {n : Int} (h : n ∈ m.subst) : n ≤ wid m ∧ -n ≤ wid m := by
  have a := widN_mem m.subst n h
  have b := wid_ge hr
  rw [wid0_eq m hr.front.1 hr.back.1] at b
  omega
theorem wid_ends {m : Md} (hr : RightM m) : m.front ≤ wid m ∧ m.back ≤ wid m := by
  have b := wid_ge hr
  rw [wid0_eq m hr.front.1 hr.back.1] at b
  omega
theorem most_fits {v : Int} (h1 : 1 ≤ v) (h2 : v ≤ 144115188075855872) : 2 * most v + 4 ≤ 1152921504606846976 / v := by
  have h3 := most_mul v h1 h2
  refine (Int.le_ediv_iff_mul_le (by omega)).2 ?_
  have h4 : (2 * most v + 4) * v = 2 * ((most v + 2) * v) := by
    rw [show 2 * most v + 4 = 2 * (most v + 2) by omega, Int.mul_assoc]
  omega
theorem ran_full {m : Md} (hr : rightM m = true) : ranE m (most (wid m)) (most (wid m)) = 0 ∧ (-1152921504606846976 ≤ ranL m (most (wid m)) (most (wid m)) ∧ ranL m (most (wid m)) (most (wid m)) ≤ 0) ∧ 0 ≤ ranH m (most (wid m)) (most (wid m)) ∧ ranH m (most (wid m)) (most (wid m)) ≤ 1152921504606846976 := by
  have hw := (rightM_out hr).wid
  have hm := most_bd _ hw.1 hw.2
  have h0 := ran_ok hr (r := most (wid m)) (c := most (wid m)) (by omega) (by omega) (by omega)
  have hb := ran_bd hw.1 hw.2 (r := most (wid m)) (c := most (wid m)) (by omega) (by omega) (by omega)
  unfold ranL ranH
  rw [h0, if_pos rfl, if_pos rfl, show min (most (wid m)) (most (wid m)) = most (wid m) by omega]
  exact ⟨rfl, hb.1, hb.2.1.1, by omega⟩

set_option maxHeartbeats 1000000 in
set_option maxRecDepth 20000 in
theorem fits_no (m : Md) (sa : Option Addr) (sn sc : Nat) (ga : Option Addr) (gn gc : Nat) (w : World) (h : MdIn w m sa sn ga gn) (hr : rightM m = false) :
    Calls Try.prog 5 #[.agg (mdCells m sa sn sc ga gn gc)] w fun e w' => e = .returned (.bool true) ∧ Below w.heap.size w w' := by
  have HM : Hid (MdAt w m sa sn ga gn) := h.at'
  have HR : Hid (rightM m = false) := hr
  clear h hr
  rw [show mdCells m sa sn sc ga gn gc = #[.int .i64 m.letters, .slice sa sn sc, .slice ga gn gc, .int .i64 m.mode, .bool m.banded, .int .i64 m.lo, .int .i64 m.hi, .int .i64 m.front, .int .i64 m.back, .int .i64 m.least] from rfl]
  go_enter Try.func5, Try.ntmps5
  go_wp2_with fail
  refine (awake_calls _).mono ?_
  rintro e w1 ⟨rfl, hb⟩
  have HX : Hid (Bx w (mdCells m sa sn sc ga gn gc) w1) := (Bx.start w _).next hb
  clear hb
  have c0 := HX.out.cell 0 (.int .i64 m.letters) rfl
  have c1 := HX.out.cell 1 (.slice sa sn sc) rfl
  have c2 := HX.out.cell 2 (.slice ga gn gc) rfl
  have c3 := HX.out.cell 3 (.int .i64 m.mode) rfl
  have c4 := HX.out.cell 4 (.bool m.banded) rfl
  have c5 := HX.out.cell 5 (.int .i64 m.lo) rfl
  have c6 := HX.out.cell 6 (.int .i64 m.hi) rfl
  have c7 := HX.out.cell 7 (.int .i64 m.front) rfl
  have c8 := HX.out.cell 8 (.int .i64 m.back) rfl
  have c9 := HX.out.cell 9 (.int .i64 m.least) rfl
  go_wp2_with fail
  refine (right_calls m sa sn sc ga gn gc _ (HM.out.below HX.out.low)).mono ?_
  rintro e w2 ⟨rfl, hb⟩
  have HX2 : Hid (Bx w (mdCells m sa sn sc ga gn gc) w2) := HX.out.next hb
  clear hb HX c0 c1 c2 c3 c4 c5 c6 c7 c8 c9
  rw [HR.out]
  have c0 := HX2.out.cell 0 (.int .i64 m.letters) rfl
  have c1 := HX2.out.cell 1 (.slice sa sn sc) rfl
  have c2 := HX2.out.cell 2 (.slice ga gn gc) rfl
  have c3 := HX2.out.cell 3 (.int .i64 m.mode) rfl
  have c4 := HX2.out.cell 4 (.bool m.banded) rfl
  have c5 := HX2.out.cell 5 (.int .i64 m.lo) rfl
  have c6 := HX2.out.cell 6 (.int .i64 m.hi) rfl
  have c7 := HX2.out.cell 7 (.int .i64 m.front) rfl
  have c8 := HX2.out.cell 8 (.int .i64 m.back) rfl
  have c9 := HX2.out.cell 9 (.int .i64 m.least) rfl
  go_wp2_with fail
  refine (widest_model m sa sn sc ga gn gc _ (HM.out.below HX2.out.low)).mono ?_
  rintro e w3 ⟨rfl, hb⟩
  have HX3 : Hid (Bx w (mdCells m sa sn sc ga gn gc) w3) := HX2.out.next hb
  clear hb HX2 c0 c1 c2 c3 c4 c5 c6 c7 c8 c9
  rw [HR.out]
  have c0 := HX3.out.cell 0 (.int .i64 m.letters) rfl
  have c1 := HX3.out.cell 1 (.slice sa sn sc) rfl
  have c2 := HX3.out.cell 2 (.slice ga gn gc) rfl
  have c3 := HX3.out.cell 3 (.int .i64 m.mode) rfl
  have c4 := HX3.out.cell 4 (.bool m.banded) rfl
  have c5 := HX3.out.cell 5 (.int .i64 m.lo) rfl
  have c6 := HX3.out.cell 6 (.int .i64 m.hi) rfl
  have c7 := HX3.out.cell 7 (.int .i64 m.front) rfl
  have c8 := HX3.out.cell 8 (.int .i64 m.back) rfl
  have c9 := HX3.out.cell 9 (.int .i64 m.least) rfl
  go_wp2_with fail
  refine (most_calls m sa sn sc ga gn gc _ (HM.out.below HX3.out.low)).mono ?_
  rintro e w4 ⟨rfl, hb⟩
  have HB : Hid (Below w.heap.size w w4) := (HX3.out.next hb).low
  clear hb HX3 c0 c1 c2 c3 c4 c5 c6 c7 c8 c9
  rw [HR.out]
  have e1 : ((110 : Int) == 110) = true := rfl
  go_wp2
  go_ret
  exact ⟨rfl, HB.out⟩

set_option maxHeartbeats 2000000 in
set_option maxRecDepth 20000 in
theorem fits_yes (m : Md) (sa : Option Addr) (sn sc : Nat) (ga : Option Addr) (gn gc : Nat) (w : World) (h : MdIn w m sa sn ga gn) (hr : rightM m = true) :
    Calls Try.prog 5 #[.agg (mdCells m sa sn sc ga gn gc)] w fun e w' => e = .returned (.bool true) ∧ Below w.heap.size w w' := by
  have HM : Hid (MdAt w m sa sn ga gn) := h.at'
  have HR : Hid (rightM m = true) := hr
  have HQ : Hid (RightM m) := rightM_out hr
  have hg := h.at'.gaps.short
  have hsn := h.at'.subst.short
  unfold maxLen at hg hsn
  clear h hr
  rw [show mdCells m sa sn sc ga gn gc = #[.int .i64 m.letters, .slice sa sn sc, .slice ga gn gc, .int .i64 m.mode, .bool m.banded, .int .i64 m.lo, .int .i64 m.hi, .int .i64 m.front, .int .i64 m.back, .int .i64 m.least] from rfl]
  go_enter Try.func5, Try.ntmps5
  go_wp2_with fail
  refine (awake_calls _).mono ?_
  rintro e w1 ⟨rfl, hb⟩
  have HX : Hid (Bx w (mdCells m sa sn sc ga gn gc) w1) := (Bx.start w _).next hb
  clear hb
  have c0 := HX.out.cell 0 (.int .i64 m.letters) rfl
  have c1 := HX.out.cell 1 (.slice sa sn sc) rfl
  have c2 := HX.out.cell 2 (.slice ga gn gc) rfl
  have c3 := HX.out.cell 3 (.int .i64 m.mode) rfl
  have c4 := HX.out.cell 4 (.bool m.banded) rfl
  have c5 := HX.out.cell 5 (.int .i64 m.lo) rfl
  have c6 := HX.out.cell 6 (.int .i64 m.hi) rfl
  have c7 := HX.out.cell 7 (.int .i64 m.front) rfl
  have c8 := HX.out.cell 8 (.int .i64 m.back) rfl
  have c9 := HX.out.cell 9 (.int .i64 m.least) rfl
  go_wp2_with fail
  refine (right_calls m sa sn sc ga gn gc _ (HM.out.below HX.out.low)).mono ?_
  rintro e w2 ⟨rfl, hb⟩
  have HX2 : Hid (Bx w (mdCells m sa sn sc ga gn gc) w2) := HX.out.next hb
  clear hb HX c0 c1 c2 c3 c4 c5 c6 c7 c8 c9
  rw [HR.out]
  have c0 := HX2.out.cell 0 (.int .i64 m.letters) rfl
  have c1 := HX2.out.cell 1 (.slice sa sn sc) rfl
  have c2 := HX2.out.cell 2 (.slice ga gn gc) rfl
  have c3 := HX2.out.cell 3 (.int .i64 m.mode) rfl
  have c4 := HX2.out.cell 4 (.bool m.banded) rfl
  have c5 := HX2.out.cell 5 (.int .i64 m.lo) rfl
  have c6 := HX2.out.cell 6 (.int .i64 m.hi) rfl
  have c7 := HX2.out.cell 7 (.int .i64 m.front) rfl
  have c8 := HX2.out.cell 8 (.int .i64 m.back) rfl
  have c9 := HX2.out.cell 9 (.int .i64 m.least) rfl
  go_wp2_with fail
  refine (widest_model m sa sn sc ga gn gc _ (HM.out.below HX2.out.low)).mono ?_
  rintro e w3 ⟨rfl, hb⟩
  have HX3 : Hid (Bx w (mdCells m sa sn sc ga gn gc) w3) := HX2.out.next hb
  clear hb HX2 c0 c1 c2 c3 c4 c5 c6 c7 c8 c9
  rw [HR.out, if_pos rfl, if_pos rfl]
  have hv : ∃ v, wid m = v := ⟨_, rfl⟩
  obtain ⟨v, hv⟩ := hv
  have HV : Hid (wid m = v) := hv
  have hvb := HQ.out.wid
  rw [hv] at hvb
  rw [hv]
  clear hv
  obtain ⟨hv1, hv2⟩ := hvb
  have c0 := HX3.out.cell 0 (.int .i64 m.letters) rfl
  have c1 := HX3.out.cell 1 (.slice sa sn sc) rfl
  have c2 := HX3.out.cell 2 (.slice ga gn gc) rfl
  have c3 := HX3.out.cell 3 (.int .i64 m.mode) rfl
  have c4 := HX3.out.cell 4 (.bool m.banded) rfl
  have c5 := HX3.out.cell 5 (.int .i64 m.lo) rfl
  have c6 := HX3.out.cell 6 (.int .i64 m.hi) rfl
  have c7 := HX3.out.cell 7 (.int .i64 m.front) rfl
  have c8 := HX3.out.cell 8 (.int .i64 m.back) rfl
  have c9 := HX3.out.cell 9 (.int .i64 m.least) rfl
  go_wp2_with fail
  refine (most_calls m sa sn sc ga gn gc _ (HM.out.below HX3.out.low)).mono ?_
  rintro e w4 ⟨rfl, hb⟩
  have HX4 : Hid (Bx w (mdCells m sa sn sc ga gn gc) w4) := HX3.out.next hb
  clear hb HX3 c0 c1 c2 c3 c4 c5 c6 c7 c8 c9
  rw [HR.out, if_pos rfl, if_pos rfl, HV.out]
  have hn : ∃ n, most v = n := ⟨_, rfl⟩
  obtain ⟨n, hn⟩ := hn
  have HN : Hid (most v = n) := hn
  have hnb := most_bd v hv1 hv2
  have hnf := most_fits hv1 hv2
  rw [hn] at hnb hnf
  rw [hn]
  clear hn
  obtain ⟨hn1, hn2⟩ := hnb
  go_wp2
  go_loopw [9, 10] (fun s i wr => ∃ (k : Nat) (b : Bool), k ≤ sn ∧ i = .int .i64 k ∧ s = .bool b ∧ (b = true → (∀ j, j < k → -1048576 ≤ m.subst.getD j 0 ∧ m.subst.getD j 0 ≤ 1048576)) ∧ Bx w (mdCells m sa sn sc ga gn gc) wr) (fun _ i _ => sn - (intOf i).toNat)
  case atStart => exact ⟨0, true, Nat.zero_le _, rfl, rfl, fun _ j hj => by omega, HX4.out⟩
  case round =>
    obtain ⟨k, s, hk, rfl, rfl, hall, hbx⟩ := hrel
    have HA : Hid (s = true → (∀ j, j < k → -1048576 ≤ m.subst.getD j 0 ∧ m.subst.getD j 0 ≤ 1048576)) := hall
    have HX : Hid (Bx w (mdCells m sa sn sc ga gn gc) wr) := hbx
    clear hall hbx HX4
    by_cases hlt : k < sn
    · obtain ⟨b, off, rfl, hcs⟩ := (HM.out.subst.below HX.out.low).cells (by omega)
      have hc1 := hcs k hlt
      have hzl := HM.out.subst.length
      have hbd := HQ.out.substs _ (getD_mem (zs := m.subst) (k := k) (by omega))
      have hws := wid_sub HQ.out (getD_mem (zs := m.subst) (k := k) (by omega))
      rw [HV.out] at hws
      clear hcs hzl
      have c1 := HX.out.cell 1 (.slice (some ⟨b, off, none⟩) sn sc) rfl
      have hz : ∃ z, m.subst.getD k 0 = z := ⟨_, rfl⟩
      obtain ⟨z, hz⟩ := hz
      have HZ : Hid (m.subst.getD k 0 = z) := hz
      rw [hz] at hc1 hbd hws
      clear hz
      obtain ⟨hbd1, hbd2⟩ := hbd
      have ht1 : ¬ v < z := by omega
      have ht2 : ¬ v < -z := by omega
      clear hws
      have HS : Hid (∀ b : Bool, (b = true → s = true ∧ -1048576 ≤ z ∧ z ≤ 1048576) → b = true → (∀ j, j < k + 1 → -1048576 ≤ m.subst.getD j 0 ∧ m.subst.getD j 0 ≤ 1048576)) := by
        intro b hb hbt j hj
        obtain ⟨h1, h2, h3⟩ := hb hbt
        by_cases e : j = k
        · subst e; rw [HZ.out]; exact ⟨h2, h3⟩
        · exact HA.out h1 j (by omega)
      clear HA HZ
      cases s
      · go_wp2
        go_roundw
        case rel => exact ⟨k + 1, false, by omega, by go_num, rfl, HS.out false (fun h => by cases h), HX.out⟩
        case measure => simp [intOf]; omega
      · by_cases h1 : z ≤ 1048576
        · by_cases h2 : -1048576 ≤ z
          · go_wp2
            go_roundw
            case rel => exact ⟨k + 1, true, by omega, by go_num, rfl, HS.out true (fun _ => ⟨rfl, h2, h1⟩), HX.out⟩
            case measure => simp [intOf]; omega
          · have h2b : decide (-1048576 ≤ z) = false := by simpa using h2
            go_wp2
            go_roundw
            case rel => exact ⟨k + 1, false, by omega, by go_num, rfl, HS.out false (fun h => by cases h), HX.out⟩
            case measure => simp [intOf]; omega
        · have h1b : decide (z ≤ 1048576) = false := by simpa using h1
          go_wp2
          go_roundw
          case rel => exact ⟨k + 1, false, by omega, by go_num, rfl, HS.out false (fun h => by cases h), HX.out⟩
          case measure => simp [intOf]; omega
    · have HS : Hid (s = true → (∀ j, j < m.subst.length → -1048576 ≤ m.subst.getD j 0 ∧ m.subst.getD j 0 ≤ 1048576)) := fun h j hj => HA.out h j (by have := HM.out.subst.length; omega)
      have c1 := HX.out.cell 1 (.slice sa sn sc) rfl
      go_wp2
      clear c1 HA
      go_loopw [9, 11] (fun s i wr => ∃ (k : Nat) (b : Bool), k ≤ gn ∧ i = .int .i64 k ∧ s = .bool b ∧ (b = true → (∀ j, j < m.subst.length → -1048576 ≤ m.subst.getD j 0 ∧ m.subst.getD j 0 ≤ 1048576) ∧ (∀ (j : Nat) (g : Int × Int), j < k → m.gaps[j]? = some g → g.1 ≤ 1048576 ∧ g.2 ≤ 1048576)) ∧ Bx w (mdCells m sa sn sc ga gn gc) wr) (fun _ i _ => gn - (intOf i).toNat)
      case atStart => exact ⟨0, s, Nat.zero_le _, rfl, rfl, fun h => ⟨HS.out h, fun j g hj => by omega⟩, HX.out⟩
      case round =>
        clear hlt hk HS HX
        obtain ⟨k, s, hk, rfl, rfl, hall, hbx⟩ := hrel
        have HA : Hid (s = true → (∀ j, j < m.subst.length → -1048576 ≤ m.subst.getD j 0 ∧ m.subst.getD j 0 ≤ 1048576) ∧ (∀ (j : Nat) (g : Int × Int), j < k → m.gaps[j]? = some g → g.1 ≤ 1048576 ∧ g.2 ≤ 1048576)) := hall
        have HX : Hid (Bx w (mdCells m sa sn sc ga gn gc) wr) := hbx
        clear hall hbx
        by_cases hlt : k < gn
        · obtain ⟨g, hgk⟩ := get_lt (l := m.gaps) (k := k) (by rw [HM.out.gaps.length]; exact hlt)
          obtain ⟨b, off, rfl, hcs⟩ := (HM.out.gaps.below HX.out.low).cells (by omega)
          obtain ⟨d1, d2⟩ := hcs k g hgk
          have hgb := HQ.out.gap g (List.mem_of_getElem? hgk)
          have hgw := widG_mem m.gaps (wid0 m) g (List.mem_of_getElem? hgk)
          have hgw2 : g.1 + g.2 ≤ v := by rw [← HV.out]; exact hgw
          have HG : Hid (m.gaps[k]? = some g) := hgk
          clear hcs hgk hgw
          obtain ⟨a, x⟩ := g
          simp only at d1 d2 hgb hgw2
          obtain ⟨⟨ha1, ha2⟩, hx1, hx2⟩ := hgb
          have HS : Hid (∀ b : Bool, (b = true → s = true ∧ a ≤ 1048576 ∧ x ≤ 1048576) → b = true → (∀ j, j < m.subst.length → -1048576 ≤ m.subst.getD j 0 ∧ m.subst.getD j 0 ≤ 1048576) ∧ (∀ (j : Nat) (g : Int × Int), j < k + 1 → m.gaps[j]? = some g → g.1 ≤ 1048576 ∧ g.2 ≤ 1048576)) := by
            intro b hb hbt
            obtain ⟨h1, h2, h3⟩ := hb hbt
            refine ⟨(HA.out h1).1, fun j g hj hg => ?_⟩
            by_cases e : j = k
            · subst e; rw [HG.out] at hg; cases hg; exact ⟨h2, h3⟩
            · exact (HA.out h1).2 j g (by omega) hg
          clear HA HG
          have c2 := HX.out.cell 2 (.slice (some ⟨b, off, none⟩) gn gc) rfl
          have hd1 : decide (v < a) = false := by simp; omega
          have ht1 : ¬ v < a := by omega
          have ht2 : ¬ v - a < x := by omega
          have hwp : IntKind.i64.wrap (v - a) = v - a := (IntWalk.i64_left _).trans (by unfold wrap64; omega)
          go_wp2_with fail
          go_region_held3 (fun W => W.cell? ⟨w.heap.size, 2, none⟩ = some (.slice (some ⟨b, off, none⟩) gn gc) ∧ W.cell? ⟨b, off + k * 2, none⟩ = some (.int .i64 a) ∧ W.cell? ⟨b, off + k * 2 + 1, none⟩ = some (.int .i64 x)) (first | with_reducible assumption | exact ⟨by assumption, by assumption, by assumption⟩) (fail)
          have HX5 : Hid (Bx w (mdCells m sa sn sc (some ⟨b, off, none⟩) gn gc) wr.drew) := HX.out.drew
          cases s
          · go_wp2
            go_roundw
            case rel => exact ⟨k + 1, false, by omega, by go_num, rfl, HS.out false (fun h => by cases h), HX5.out⟩
            case measure => simp [intOf]; omega
          · by_cases h1 : a ≤ 1048576
            · by_cases h2 : x ≤ 1048576
              · have h2b : decide (x ≤ 1048576) = true := by simpa using h2
                go_wp2
                go_roundw
                case rel => exact ⟨k + 1, true, by omega, by go_num, rfl, HS.out true (fun _ => ⟨rfl, h1, h2⟩), HX5.out⟩
                case measure => simp [intOf]; omega
              · have h2b : decide (x ≤ 1048576) = false := by simpa using h2
                go_wp2
                go_roundw
                case rel => exact ⟨k + 1, false, by omega, by go_num, rfl, HS.out false (fun h => by cases h), HX5.out⟩
                case measure => simp [intOf]; omega
            · have h1b : decide (a ≤ 1048576) = false := by simpa using h1
              go_wp2
              go_roundw
              case rel => exact ⟨k + 1, false, by omega, by go_num, rfl, HS.out false (fun h => by cases h), HX5.out⟩
              case measure => simp [intOf]; omega
        · have HS : Hid (s = true → (∀ j, j < m.subst.length → -1048576 ≤ m.subst.getD j 0 ∧ m.subst.getD j 0 ≤ 1048576) ∧ (∀ (j : Nat) (g : Int × Int), j < m.gaps.length → m.gaps[j]? = some g → g.1 ≤ 1048576 ∧ g.2 ≤ 1048576)) := fun h => ⟨(HA.out h).1, fun j g hj hg => (HA.out h).2 j g (by have := HM.out.gaps.length; omega) hg⟩
          have HF : Hid (∀ b : Bool, (b = true → s = true ∧ m.front ≤ 1048576 ∧ m.back ≤ 1048576) → b = true → n = 65536) := by
            intro b hb hbt
            obtain ⟨h1, h2, h3⟩ := hb hbt
            rw [← HN.out, ← HV.out]
            exact wid_small HQ.out (HS.out h1).1 (HS.out h1).2 h2 h3
          have HE := ran_full HR.out
          rw [HV.out, HN.out] at HE
          have HE1 : Hid (ranE m (n + 1) 0 = 170) := ran_long HR.out (by omega) (by omega) (by rw [HV.out, HN.out]; omega)
          have HE2 : Hid (ranE m 0 (n + 1) = 170) := ran_long HR.out (by omega) (by omega) (by rw [HV.out, HN.out]; omega)
          have HEE : Hid (ranE m n n = 0 ∧ (-1152921504606846976 ≤ ranL m n n ∧ ranL m n n ≤ 0) ∧ 0 ≤ ranH m n n ∧ ranH m n n ≤ 1152921504606846976) := HE
          have hends := wid_ends HQ.out
          rw [HV.out] at hends
          have hf0 := HQ.out.front
          have hb0 := HQ.out.back
          clear HE HS HA
          have t1 : ¬ v < m.front := by omega
          have t2 : ¬ v < m.back := by omega
          have t3 : ¬ v < 1 := by omega
          have t4 : ¬ n < 2 := by omega
          have t5 : ¬ 65536 < n := by omega
          have t6 : ¬ v = 0 := by omega
          have t7 : ¬ 1152921504606846976 / v < 2 * n + 4 := by omega
          have t8 : 1152921504606846976 / v ≤ 1152921504606846976 := Int.ediv_le_self _ (by omega)
          clear hends hf0 hb0 hnf
          have e0 : ((0 : Int) == 0) = true := rfl
          have e1 : ((170 : Int) == 170) = true := rfl
          have e2 : ((0 : Int) != 0) = false := rfl
          have HT : Hid (∀ (s1 : Bool), (s1 = true → s = true ∧ m.front ≤ 1048576 ∧ m.back ≤ 1048576) → s1 = true → (n != 65536) = false) := by
            intro s1 h1 h2
            rw [HF.out s1 h1 h2]; rfl
          clear HF
          have c0 := HX.out.cell 0 (.int .i64 m.letters) rfl
          have c1 := HX.out.cell 1 (.slice sa sn sc) rfl
          have c2 := HX.out.cell 2 (.slice ga gn gc) rfl
          have c3 := HX.out.cell 3 (.int .i64 m.mode) rfl
          have c4 := HX.out.cell 4 (.bool m.banded) rfl
          have c5 := HX.out.cell 5 (.int .i64 m.lo) rfl
          have c6 := HX.out.cell 6 (.int .i64 m.hi) rfl
          have c7 := HX.out.cell 7 (.int .i64 m.front) rfl
          have c8 := HX.out.cell 8 (.int .i64 m.back) rfl
          have c9 := HX.out.cell 9 (.int .i64 m.least) rfl
          rcases s with _ | _
          · go_wp2_with fail
            refine (range_calls m sa sn sc ga gn gc n n _ (HM.out.below HX.out.low)).mono ?_
            rintro e w5 ⟨rfl, hb⟩
            have HX6 : Hid (Bx w (mdCells m sa sn sc ga gn gc) w5) := HX.out.next hb
            clear hb c0 c1 c2 c3 c4 c5 c6 c7 c8 c9
            rw [HEE.out.1]
            have c0 := HX6.out.cell 0 (.int .i64 m.letters) rfl
            have c1 := HX6.out.cell 1 (.slice sa sn sc) rfl
            have c2 := HX6.out.cell 2 (.slice ga gn gc) rfl
            have c3 := HX6.out.cell 3 (.int .i64 m.mode) rfl
            have c4 := HX6.out.cell 4 (.bool m.banded) rfl
            have c5 := HX6.out.cell 5 (.int .i64 m.lo) rfl
            have c6 := HX6.out.cell 6 (.int .i64 m.hi) rfl
            have c7 := HX6.out.cell 7 (.int .i64 m.front) rfl
            have c8 := HX6.out.cell 8 (.int .i64 m.back) rfl
            have c9 := HX6.out.cell 9 (.int .i64 m.least) rfl
            go_wp2_with fail
            refine (range_calls m sa sn sc ga gn gc (n + 1) 0 _ (HM.out.below HX6.out.low)).mono ?_
            rintro e w6 ⟨rfl, hb⟩
            have HX7 : Hid (Bx w (mdCells m sa sn sc ga gn gc) w6) := HX6.out.next hb
            clear hb c0 c1 c2 c3 c4 c5 c6 c7 c8 c9
            rw [HE1.out]
            have c0 := HX7.out.cell 0 (.int .i64 m.letters) rfl
            have c1 := HX7.out.cell 1 (.slice sa sn sc) rfl
            have c2 := HX7.out.cell 2 (.slice ga gn gc) rfl
            have c3 := HX7.out.cell 3 (.int .i64 m.mode) rfl
            have c4 := HX7.out.cell 4 (.bool m.banded) rfl
            have c5 := HX7.out.cell 5 (.int .i64 m.lo) rfl
            have c6 := HX7.out.cell 6 (.int .i64 m.hi) rfl
            have c7 := HX7.out.cell 7 (.int .i64 m.front) rfl
            have c8 := HX7.out.cell 8 (.int .i64 m.back) rfl
            have c9 := HX7.out.cell 9 (.int .i64 m.least) rfl
            go_wp2_with fail
            refine (range_calls m sa sn sc ga gn gc 0 (n + 1) _ (HM.out.below HX7.out.low)).mono ?_
            rintro e w7 ⟨rfl, hb⟩
            have HX8 : Hid (Bx w (mdCells m sa sn sc ga gn gc) w7) := HX7.out.next hb
            clear hb c0 c1 c2 c3 c4 c5 c6 c7 c8 c9
            rw [HE2.out]
            have hq := HEE.out.2
            generalize ranL m n n = x1 at *
            generalize ranH m n n = x2 at *
            generalize ranL m (n + 1) 0 = x3 at *
            generalize ranH m (n + 1) 0 = x4 at *
            generalize ranL m 0 (n + 1) = x5 at *
            generalize ranH m 0 (n + 1) = x6 at *
            obtain ⟨⟨q1, q2⟩, q3, q4⟩ := hq
            go_wp2
            go_ret
            exact ⟨(by simp), HX8.out.low⟩
          · by_cases g1 : m.front ≤ 1048576
            · by_cases g2 : m.back ≤ 1048576
              · have g3 := HT.out true (fun _ => ⟨rfl, g1, g2⟩) rfl
                have g4 : decide (m.back ≤ 1048576) = true := by simpa using g2
                go_wp2_with fail
                refine (range_calls m sa sn sc ga gn gc n n _ (HM.out.below HX.out.low)).mono ?_
                rintro e w5 ⟨rfl, hb⟩
                have HX6 : Hid (Bx w (mdCells m sa sn sc ga gn gc) w5) := HX.out.next hb
                clear hb c0 c1 c2 c3 c4 c5 c6 c7 c8 c9
                rw [HEE.out.1]
                have c0 := HX6.out.cell 0 (.int .i64 m.letters) rfl
                have c1 := HX6.out.cell 1 (.slice sa sn sc) rfl
                have c2 := HX6.out.cell 2 (.slice ga gn gc) rfl
                have c3 := HX6.out.cell 3 (.int .i64 m.mode) rfl
                have c4 := HX6.out.cell 4 (.bool m.banded) rfl
                have c5 := HX6.out.cell 5 (.int .i64 m.lo) rfl
                have c6 := HX6.out.cell 6 (.int .i64 m.hi) rfl
                have c7 := HX6.out.cell 7 (.int .i64 m.front) rfl
                have c8 := HX6.out.cell 8 (.int .i64 m.back) rfl
                have c9 := HX6.out.cell 9 (.int .i64 m.least) rfl
                go_wp2_with fail
                refine (range_calls m sa sn sc ga gn gc (n + 1) 0 _ (HM.out.below HX6.out.low)).mono ?_
                rintro e w6 ⟨rfl, hb⟩
                have HX7 : Hid (Bx w (mdCells m sa sn sc ga gn gc) w6) := HX6.out.next hb
                clear hb c0 c1 c2 c3 c4 c5 c6 c7 c8 c9
                rw [HE1.out]
                have c0 := HX7.out.cell 0 (.int .i64 m.letters) rfl
                have c1 := HX7.out.cell 1 (.slice sa sn sc) rfl
                have c2 := HX7.out.cell 2 (.slice ga gn gc) rfl
                have c3 := HX7.out.cell 3 (.int .i64 m.mode) rfl
                have c4 := HX7.out.cell 4 (.bool m.banded) rfl
                have c5 := HX7.out.cell 5 (.int .i64 m.lo) rfl
                have c6 := HX7.out.cell 6 (.int .i64 m.hi) rfl
                have c7 := HX7.out.cell 7 (.int .i64 m.front) rfl
                have c8 := HX7.out.cell 8 (.int .i64 m.back) rfl
                have c9 := HX7.out.cell 9 (.int .i64 m.least) rfl
                go_wp2_with fail
                refine (range_calls m sa sn sc ga gn gc 0 (n + 1) _ (HM.out.below HX7.out.low)).mono ?_
                rintro e w7 ⟨rfl, hb⟩
                have HX8 : Hid (Bx w (mdCells m sa sn sc ga gn gc) w7) := HX7.out.next hb
                clear hb c0 c1 c2 c3 c4 c5 c6 c7 c8 c9
                rw [HE2.out]
                have hq := HEE.out.2
                generalize ranL m n n = x1 at *
                generalize ranH m n n = x2 at *
                generalize ranL m (n + 1) 0 = x3 at *
                generalize ranH m (n + 1) 0 = x4 at *
                generalize ranL m 0 (n + 1) = x5 at *
                generalize ranH m 0 (n + 1) = x6 at *
                obtain ⟨⟨q1, q2⟩, q3, q4⟩ := hq
                go_wp2
                go_ret
                exact ⟨(by simp), HX8.out.low⟩
              · have g4 : decide (m.back ≤ 1048576) = false := by simpa using g2
                go_wp2_with fail
                refine (range_calls m sa sn sc ga gn gc n n _ (HM.out.below HX.out.low)).mono ?_
                rintro e w5 ⟨rfl, hb⟩
                have HX6 : Hid (Bx w (mdCells m sa sn sc ga gn gc) w5) := HX.out.next hb
                clear hb c0 c1 c2 c3 c4 c5 c6 c7 c8 c9
                rw [HEE.out.1]
                have c0 := HX6.out.cell 0 (.int .i64 m.letters) rfl
                have c1 := HX6.out.cell 1 (.slice sa sn sc) rfl
                have c2 := HX6.out.cell 2 (.slice ga gn gc) rfl
                have c3 := HX6.out.cell 3 (.int .i64 m.mode) rfl
                have c4 := HX6.out.cell 4 (.bool m.banded) rfl
                have c5 := HX6.out.cell 5 (.int .i64 m.lo) rfl
                have c6 := HX6.out.cell 6 (.int .i64 m.hi) rfl
                have c7 := HX6.out.cell 7 (.int .i64 m.front) rfl
                have c8 := HX6.out.cell 8 (.int .i64 m.back) rfl
                have c9 := HX6.out.cell 9 (.int .i64 m.least) rfl
                go_wp2_with fail
                refine (range_calls m sa sn sc ga gn gc (n + 1) 0 _ (HM.out.below HX6.out.low)).mono ?_
                rintro e w6 ⟨rfl, hb⟩
                have HX7 : Hid (Bx w (mdCells m sa sn sc ga gn gc) w6) := HX6.out.next hb
                clear hb c0 c1 c2 c3 c4 c5 c6 c7 c8 c9
                rw [HE1.out]
                have c0 := HX7.out.cell 0 (.int .i64 m.letters) rfl
                have c1 := HX7.out.cell 1 (.slice sa sn sc) rfl
                have c2 := HX7.out.cell 2 (.slice ga gn gc) rfl
                have c3 := HX7.out.cell 3 (.int .i64 m.mode) rfl
                have c4 := HX7.out.cell 4 (.bool m.banded) rfl
                have c5 := HX7.out.cell 5 (.int .i64 m.lo) rfl
                have c6 := HX7.out.cell 6 (.int .i64 m.hi) rfl
                have c7 := HX7.out.cell 7 (.int .i64 m.front) rfl
                have c8 := HX7.out.cell 8 (.int .i64 m.back) rfl
                have c9 := HX7.out.cell 9 (.int .i64 m.least) rfl
                go_wp2_with fail
                refine (range_calls m sa sn sc ga gn gc 0 (n + 1) _ (HM.out.below HX7.out.low)).mono ?_
                rintro e w7 ⟨rfl, hb⟩
                have HX8 : Hid (Bx w (mdCells m sa sn sc ga gn gc) w7) := HX7.out.next hb
                clear hb c0 c1 c2 c3 c4 c5 c6 c7 c8 c9
                rw [HE2.out]
                have hq := HEE.out.2
                generalize ranL m n n = x1 at *
                generalize ranH m n n = x2 at *
                generalize ranL m (n + 1) 0 = x3 at *
                generalize ranH m (n + 1) 0 = x4 at *
                generalize ranL m 0 (n + 1) = x5 at *
                generalize ranH m 0 (n + 1) = x6 at *
                obtain ⟨⟨q1, q2⟩, q3, q4⟩ := hq
                go_wp2
                go_ret
                exact ⟨(by simp), HX8.out.low⟩
            · have g4 : decide (m.front ≤ 1048576) = false := by simpa using g1
              go_wp2_with fail
              refine (range_calls m sa sn sc ga gn gc n n _ (HM.out.below HX.out.low)).mono ?_
              rintro e w5 ⟨rfl, hb⟩
              have HX6 : Hid (Bx w (mdCells m sa sn sc ga gn gc) w5) := HX.out.next hb
              clear hb c0 c1 c2 c3 c4 c5 c6 c7 c8 c9
              rw [HEE.out.1]
              have c0 := HX6.out.cell 0 (.int .i64 m.letters) rfl
              have c1 := HX6.out.cell 1 (.slice sa sn sc) rfl
              have c2 := HX6.out.cell 2 (.slice ga gn gc) rfl
              have c3 := HX6.out.cell 3 (.int .i64 m.mode) rfl
              have c4 := HX6.out.cell 4 (.bool m.banded) rfl
              have c5 := HX6.out.cell 5 (.int .i64 m.lo) rfl
              have c6 := HX6.out.cell 6 (.int .i64 m.hi) rfl
              have c7 := HX6.out.cell 7 (.int .i64 m.front) rfl
              have c8 := HX6.out.cell 8 (.int .i64 m.back) rfl
              have c9 := HX6.out.cell 9 (.int .i64 m.least) rfl
              go_wp2_with fail
              refine (range_calls m sa sn sc ga gn gc (n + 1) 0 _ (HM.out.below HX6.out.low)).mono ?_
              rintro e w6 ⟨rfl, hb⟩
              have HX7 : Hid (Bx w (mdCells m sa sn sc ga gn gc) w6) := HX6.out.next hb
              clear hb c0 c1 c2 c3 c4 c5 c6 c7 c8 c9
              rw [HE1.out]
              have c0 := HX7.out.cell 0 (.int .i64 m.letters) rfl
              have c1 := HX7.out.cell 1 (.slice sa sn sc) rfl
              have c2 := HX7.out.cell 2 (.slice ga gn gc) rfl
              have c3 := HX7.out.cell 3 (.int .i64 m.mode) rfl
              have c4 := HX7.out.cell 4 (.bool m.banded) rfl
              have c5 := HX7.out.cell 5 (.int .i64 m.lo) rfl
              have c6 := HX7.out.cell 6 (.int .i64 m.hi) rfl
              have c7 := HX7.out.cell 7 (.int .i64 m.front) rfl
              have c8 := HX7.out.cell 8 (.int .i64 m.back) rfl
              have c9 := HX7.out.cell 9 (.int .i64 m.least) rfl
              go_wp2_with fail
              refine (range_calls m sa sn sc ga gn gc 0 (n + 1) _ (HM.out.below HX7.out.low)).mono ?_
              rintro e w7 ⟨rfl, hb⟩
              have HX8 : Hid (Bx w (mdCells m sa sn sc ga gn gc) w7) := HX7.out.next hb
              clear hb c0 c1 c2 c3 c4 c5 c6 c7 c8 c9
              rw [HE2.out]
              have hq := HEE.out.2
              generalize ranL m n n = x1 at *
              generalize ranH m n n = x2 at *
              generalize ranL m (n + 1) 0 = x3 at *
              generalize ranH m (n + 1) 0 = x4 at *
              generalize ranL m 0 (n + 1) = x5 at *
              generalize ranH m 0 (n + 1) = x6 at *
              obtain ⟨⟨q1, q2⟩, q3, q4⟩ := hq
              go_wp2
              go_ret
              exact ⟨(by simp), HX8.out.low⟩

theorem fits_walk (m : Md) (sa : Option Addr) (sn sc : Nat) (ga : Option Addr) (gn gc : Nat) (w : World) (h : MdIn w m sa sn ga gn) :
    Calls Try.prog 5 #[.agg (mdCells m sa sn sc ga gn gc)] w fun e w' => e = .returned (.bool true) ∧ Below w.heap.size w w' := by
  cases hr : rightM m
  · exact fits_no m sa sn sc ga gn gc w h hr
  · exact fits_yes m sa sn sc ga gn gc w h hr

namespace boundFits
open Go.ChangeShapes Go.WideShapes Go.ChangeAt Go.RowKit
open Go.ChangeMaps (open_string shut_string)
theorem own : ownKnob Try.prog.godebug = none := by kernel_rfl
theorem laidOut : laidOutB Try.prog = true := by kernel_rfl
set_option maxRecDepth 100000 in
theorem lifted (os : Os) (started : os.Started) (H : Type) (enc : TypeId × Value → H) :
    ReturnsInHanded {} Try.checked os 5 .any (Rows.boundFitsSpec.pre6 enc Try.prog Try.f5 Rows.boundFitsRow.domain false) (Rows.boundFitsSpec.post enc Try.prog Try.f5 false true false false) := by
  refine returnsInHanded_of_change_sized (C := Try.checked) own started (by kernel_rfl) Try.func5
    (ChangeSpec.witness6 (enc := enc) (C := Try.checked) false ⟨#[], #[.agg #[.int .i64 0, .slice none 0 0, .slice none 0 0, .int .i64 0, .bool false, .int .i64 0, .int .i64 0, .int .i64 0, .int .i64 0, .int .i64 0]], []⟩ 8 (by kernel_rfl) (by kernel_rfl) (by kernel_rfl) (by kernel_rfl)) ?_
  intro W base args ds gs before hval0 hW _ hsz0 _
  have hval : ∀ (j : Nat) t v, Try.f5.params[j]? = some t → args[j]? = some v → Value.okWide Try.prog W .any base t v := hval0
  have hsz : (DataW.weightsEach Try.prog (Try.f5.params.toList ++ Rows.boundFitsSpec.plain.varTypes Try.prog) (ds ++ gs)).all (· ≤ reachBytes) = true := hsz0
  have hW' := hW
  obtain ⟨p, q, hA0, hV, rfl, hfz, hnd⟩ := hW
  have hA : DataW.TrodAll enc Try.prog W 0 (fun _ => true) true Try.f5.params.toList args.toList ds p := hA0
  rw [Try.params5] at hA hval hsz
  obtain ⟨v0, vs0, d0, ds0, p0, q0, hargs, rfl, rfl, h0, r0⟩ := trodAll_cons hA
  obtain ⟨rfl, rfl, rfl⟩ := trodAll_nil r0
  obtain rfl : args = #[v0] := by cases args; simp_all
  obtain ⟨rfl, rfl⟩ := trodVars_none hV
  have hw : ∀ (j : Nat) (t : TypeId) (d : DataW H), ([25] ++ Rows.boundFitsSpec.plain.varTypes Try.prog)[j]? = some t → ([d0] ++ [])[j]? = some d → ∀ n ∈ d.weights Try.prog t, n ≤ reachBytes := fun j t d ht hd n hn =>
    of_decide_eq_true (List.all_eq_true.1 hsz _ (DataW.weights_mem_each ht hd n hn))
  obtain ⟨cs0, rfl, hcs0⟩ := okWide_struct Try.underlying25 (hval 0 25 v0 rfl rfl)
  have lt0 : ∀ x ∈ p0, x.block < W.heap.size := by obtain ⟨m, hm⟩ := h0; exact DataW.trod_lt m _ _ _ hm
  obtain ⟨m0, sa0, sn0, sc0, ga0, gn0, gc0, e0, in0⟩ := md_in hcs0 h0 (hw 0 25 d0 rfl rfl)
  subst e0
  clear hA0 hval0
  refine (fits_walk m0 sa0 sn0 sc0 ga0 gn0 gc0 W in0).mono fun e W' ⟨he, bel⟩ => ?_
  subst he
  exact ⟨_, rfl, _, _, _, [], _, [], hW', trodAll_mk1 (shut_bool Try.underlying4 _), (trodAll_cons_mk (Below.trod laidOut (by kernel_rfl) (of_decide_eq_true (by kernel_rfl)) h0 bel lt0) trodAll_mk0), rfl, bel.frame _, fun h => by cases h⟩
end boundFits

theorem boundFits_holds : Rows.BoundFitsSaid :=
  OpenClaim.holds_of_wide 5 Try.f5 rfl rfl rfl rfl rfl rfl rfl ⟨rfl, rfl, rfl, rfl, rfl⟩ rfl rfl rfl rfl rfl (by kernel_rfl) Try.func5 (by kernel_rfl)
    (of_decide_eq_true (by kernel_rfl)) (by unfold Func.isWrapper; first | (rw [if_pos (by decide +kernel)]; kernel_rfl) | (rw [if_neg (by decide +kernel)]; exact ⟨rfl, rfl⟩))
    (fun os started H enc _ => boundFits.lifted os started H enc)

end Go.Proofs.Ytaicppkhdfiokaa
