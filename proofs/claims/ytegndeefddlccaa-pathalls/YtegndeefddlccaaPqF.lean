/-
  The document's worth.
-/
import Derived.Test.YtegndeefddlccaaPqE
namespace Go.Proofs.Ytegndeefddlccaa
open Go.RowKit

theorem mul_bd {u d : Int} (h1 : 0 ≤ u) (h2 : u ≤ 65536) (h3 : 0 ≤ d ∧ d ≤ 1) : 0 ≤ u * d ∧ u * d ≤ 65536 := by
  have h4 := Int.mul_nonneg h1 h3.1
  have h5 := Int.mul_le_mul_of_nonneg_left h3.2 h1
  omega
set_option maxRecDepth 20000 in
set_option maxHeartbeats 4000000 in
theorem worthR_calls (m : Md) (sa : Option Addr) (sn sc : Nat) (ga : Option Addr) (gn gc : Nat) (xa : Option Addr) (xn xc : Nat) (ya : Option Addr) (yn yc : Nat) (xs ys : List Int) (i0 j0 : Int) (s : ByteArray) (w : World) (hF : FdOk m xs ys w sa sn ga gn xa xn ya yn) (hln : (xn : Int) ≤ most (wid m) ∧ (yn : Int) ≤ most (wid m)) (hs : s.size ≤ maxLen) (hal : allowsB m xn yn ⟨i0, j0, s.data.toList⟩ = true) :
    Calls Try.prog 31 #[.agg (mdCells m sa sn sc ga gn gc), .slice xa xn xc, .slice ya yn yc, .agg #[.int .i64 i0, .int .i64 j0, .string s]] w fun e w' => e = .returned (.int .i64 (worthW m xs ys ⟨i0, j0, s.data.toList⟩)) ∧ Below w.heap.size w w' := by
  have hhs := hal
  unfold allowsB at hhs
  simp only [Bool.and_eq_true] at hhs
  obtain ⟨⟨hh0, _⟩, hst0⟩ := hhs
  have HB0 : Hid (S2 w (mdCells m sa sn sc ga gn gc) #[.int .i64 i0, .int .i64 j0, .string s] ((w.alloc (.cells (mdCells m sa sn sc ga gn gc) 31)).alloc (.cells #[.int .i64 i0, .int .i64 j0, .string s] 33))) := S2.start w _ _
  have HF : Hid (FdOk m xs ys w sa sn ga gn xa xn ya yn) := hF
  have HLn : Hid ((xn : Int) ≤ most (wid m) ∧ (yn : Int) ≤ most (wid m)) := hln
  clear hln
  have hsx := hF.sx
  have hsy := hF.sy
  have hxl := hF.x.length
  have hyl := hF.y.length
  have hrt := rightM_out hF.right
  have hfr := hrt.front
  have hbk := hrt.back
  have hgl := hF.md.gaps.short
  have hc0 := hasB_cells hh0
  obtain ⟨f0, hf0⟩ : ∃ f0 : Int, (if 0 < j0 then - m.front else 0) = f0 := ⟨_, rfl⟩
  obtain ⟨RS, RJ, hRW⟩ : ∃ RS RJ, wGo m xs ys i0 j0 f0 0 (s.data.toList.drop 0) = (RS, RJ) := ⟨_, _, rfl⟩
  have HW : Hid (worthW m xs ys ⟨i0, j0, s.data.toList⟩ = if RJ < (yn : Int) then wrap64 (RS - m.back) else RS) := by
    have : worthW m xs ys ⟨i0, j0, s.data.toList⟩ = _ := rfl
    show _ = _
    rw [worthW]
    simp only [hf0, hyl]
    rw [List.drop_zero] at hRW
    rw [hRW]
  have HR0 : Hid (hasB m xn yn i0 j0 = true ∧ stepsB m xn yn i0 j0 (s.data.toList.drop 0) = true ∧ wGo m xs ys i0 j0 f0 0 (s.data.toList.drop 0) = (RS, RJ)) := ⟨hh0, by simpa using hst0, hRW⟩
  clear hal hh0 hst0 hF hrt hRW
  unfold maxLen at hs hgl
  have c0 := cell_block HB0.out.box 0 (.int .i64 m.letters) rfl; have c1 := cell_block HB0.out.box 1 (.slice sa sn sc) rfl; have c2 := cell_block HB0.out.box 2 (.slice ga gn gc) rfl; have c3 := cell_block HB0.out.box 3 (.int .i64 m.mode) rfl; have c4 := cell_block HB0.out.box 4 (.bool m.banded) rfl; have c5 := cell_block HB0.out.box 5 (.int .i64 m.lo) rfl; have c6 := cell_block HB0.out.box 6 (.int .i64 m.hi) rfl; have c7 := cell_block HB0.out.box 7 (.int .i64 m.front) rfl; have c8 := cell_block HB0.out.box 8 (.int .i64 m.back) rfl; have c9 := cell_block HB0.out.box 9 (.int .i64 m.least) rfl; have cp0 := cell_block HB0.out.p 0 (.int .i64 i0) rfl; have cp1 := cell_block HB0.out.p 1 (.int .i64 j0) rfl; have cp2 := cell_block HB0.out.p 2 (.string s) rfl
  rw [show mdCells m sa sn sc ga gn gc = #[.int .i64 m.letters, .slice sa sn sc, .slice ga gn gc, .int .i64 m.mode, .bool m.banded, .int .i64 m.lo, .int .i64 m.hi, .int .i64 m.front, .int .i64 m.back, .int .i64 m.least] from rfl]
  have HB1 : Hid (S2 w (mdCells m sa sn sc ga gn gc) #[.int .i64 i0, .int .i64 j0, .string s] ((w.alloc (.cells #[.int .i64 m.letters, .slice sa sn sc, .slice ga gn gc, .int .i64 m.mode, .bool m.banded, .int .i64 m.lo, .int .i64 m.hi, .int .i64 m.front, .int .i64 m.back, .int .i64 m.least] 31)).alloc (.cells #[.int .i64 i0, .int .i64 j0, .string s] 33))) := HB0.out
  clear HB0
  go_enter Try.func31, Try.ntmps31
  by_cases hj0 : 0 < j0
  · have hf0' : f0 = - m.front := by rw [← hf0, if_pos hj0]
    subst hf0'
    clear hf0
    go_wp2
    go_loopw [9, 10, 11, 12] (fun zc i j k wr => ∃ (q : Nat) (a b t : Int), q ≤ s.size ∧ k = .int .i64 q ∧ i = .int .i64 a ∧ j = .int .i64 b ∧ zc = .int .i64 t ∧ (hasB m xn yn a b = true ∧ stepsB m xn yn a b (s.data.toList.drop q) = true ∧ wGo m xs ys a b t 0 (s.data.toList.drop q) = (RS, RJ)) ∧ S2 w (mdCells m sa sn sc ga gn gc) #[.int .i64 i0, .int .i64 j0, .string s] wr) (fun _ _ _ k _ => s.size - (intOf k).toNat)
    case atStart => exact ⟨0, i0, j0, - m.front, Nat.zero_le _, rfl, rfl, rfl, by simp, HR0.out, HB1.out⟩
    case round =>
      clear c0 c1 c2 c3 c4 c5 c6 c7 c8 c9 cp0 cp1 cp2
      obtain ⟨q, a, b, t, hq, rfl, rfl, rfl, rfl, hr, hB⟩ := hrel
      obtain ⟨hab, hr⟩ := hr
      have hc := hasB_cells hab
      have HS1 : Hid (stepsB m xn yn a b (s.data.toList.drop q) = true) := hr.1
      have HWg : Hid (wGo m xs ys a b t 0 (s.data.toList.drop q) = (RS, RJ)) := hr.2
      have HBr : Hid (S2 w (mdCells m sa sn sc ga gn gc) #[.int .i64 i0, .int .i64 j0, .string s] wr) := hB
      clear hr hB hab HR0 HB1
      have c0 := cell_block HBr.out.box 0 (.int .i64 m.letters) rfl; have c1 := cell_block HBr.out.box 1 (.slice sa sn sc) rfl; have c2 := cell_block HBr.out.box 2 (.slice ga gn gc) rfl; have c3 := cell_block HBr.out.box 3 (.int .i64 m.mode) rfl; have c4 := cell_block HBr.out.box 4 (.bool m.banded) rfl; have c5 := cell_block HBr.out.box 5 (.int .i64 m.lo) rfl; have c6 := cell_block HBr.out.box 6 (.int .i64 m.hi) rfl; have c7 := cell_block HBr.out.box 7 (.int .i64 m.front) rfl; have c8 := cell_block HBr.out.box 8 (.int .i64 m.back) rfl; have c9 := cell_block HBr.out.box 9 (.int .i64 m.least) rfl; have cp0 := cell_block HBr.out.p 0 (.int .i64 i0) rfl; have cp1 := cell_block HBr.out.p 1 (.int .i64 j0) rfl; have cp2 := cell_block HBr.out.p 2 (.string s) rfl
      by_cases hql : q < s.size
      · obtain ⟨c, hcq⟩ : ∃ c, s[q] = c := ⟨_, rfl⟩
        have HG : Hid (s.data.toList[q]? = some c) := by rw [← hcq]; exact ba_list s q hql
        have hst := HS1.out
        rw [stepsB_cons HG.out] at hst
        simp only [Bool.and_eq_true] at hst
        obtain ⟨⟨hgo, hhas⟩, hst2⟩ := hst
        have HQ : Hid (s[q] = c) := hcq
        rcases goB_kinds hgo with rfl | ⟨hkd, hgne⟩
        · have hwg := HWg.out
          rw [wGo_cons HG.out, if_pos rfl] at hwg
          have hc2 := hasB_cells hhas
          have HN : Hid (hasB m xn yn (a + dnB 77) (b + ovB 77) = true ∧ stepsB m xn yn (a + dnB 77) (b + ovB 77) (s.data.toList.drop (q + 1)) = true) := ⟨hhas, hst2⟩
          clear hst2 hhas HS1 HWg hgo
          have hd1 : dnB 77 = 1 := rfl
          have ho1 : ovB 77 = 1 := rfl
          rw [hd1, ho1] at hwg HN hc2
          obtain ⟨an, rfl⟩ := Int.eq_ofNat_of_zero_le hc.1
          obtain ⟨bn, rfl⟩ := Int.eq_ofNat_of_zero_le hc.2.2.1
          obtain ⟨bx, ox, by_, oy, bs_, os, xv, yv, pv, ix, rfl, rfl, rfl, cx, cy, hpv0, hxv, hpr, hyv, hix, hixl, csb⟩ := sub_at (HF.out.below HBr.out.low) (a := an) (b := bn) (by omega) (by omega)
          have hpv : m.letters * xv = pv := by rw [Int.mul_comm]; exact hpv0
          have f1 : (((s[q]).toNat : Int) == 77) = true := by rw [HQ.out]; rfl
          obtain ⟨sv, hsv⟩ : ∃ sv, subB m xs ys ((an : Int) + 1) ((bn : Int) + 1) = sv := ⟨_, rfl⟩
          rw [hsv] at csb hwg
          have HW2 : Hid (wGo m xs ys ((an : Int) + 1) ((bn : Int) + 1) (wrap64 (t + sv)) 0 (s.data.toList.drop (q + 1)) = (RS, RJ)) := hwg
          clear hwg hsv hpv0 hcq
          go_wp2
          go_quiet (fail)
          go_wp2
          go_roundw
          case rel =>
            exact ⟨q + 1, (an : Int) + 1, (bn : Int) + 1, wrap64 (t + sv), by omega, by go_num, rfl, rfl, rfl, ⟨HN.out.1, HN.out.2, HW2.out⟩, HBr.out.drewN _⟩
          case measure => simp [intOf]; omega
        · have h77 : c ≠ 77 := by rcases hkd with rfl | rfl <;> decide
          have f1 : ((c.toNat : Int) == 77) = false := u8_77 h77
          clear hgo hhas hst2
          go_wp2
          obtain ⟨wo, rfl⟩ : ∃ wo : World, wo = wr := ⟨_, rfl⟩
          go_loopw [12, 14] (fun k n wr => ∃ (u : Nat), q + u ≤ s.size ∧ k = .int .i64 ((q + u : Nat) : Int) ∧ n = .int .i64 u ∧ (∀ t, t < u → s.data.toList[q + t]? = some c) ∧ S2 w (mdCells m sa sn sc ga gn gc) #[.int .i64 i0, .int .i64 j0, .string s] wr) (fun k _ _ => s.size - (intOf k).toNat)
          case atStart => exact ⟨0, by omega, by simp, rfl, fun t ht => by omega, HBr.out⟩
          case round =>
            clear c0 c1 c2 c3 c4 c5 c6 c7 c8 c9 cp0 cp1 cp2
            obtain ⟨u, hu, rfl, rfl, hall, hB⟩ := hrel
            have HU : Hid (∀ t, t < u → s.data.toList[q + t]? = some c) := hall
            have HBi : Hid (S2 w (mdCells m sa sn sc ga gn gc) #[.int .i64 i0, .int .i64 j0, .string s] wr) := hB
            clear hall hB HBr
            have c0 := cell_block HBi.out.box 0 (.int .i64 m.letters) rfl; have c1 := cell_block HBi.out.box 1 (.slice sa sn sc) rfl; have c2 := cell_block HBi.out.box 2 (.slice ga gn gc) rfl; have c3 := cell_block HBi.out.box 3 (.int .i64 m.mode) rfl; have c4 := cell_block HBi.out.box 4 (.bool m.banded) rfl; have c5 := cell_block HBi.out.box 5 (.int .i64 m.lo) rfl; have c6 := cell_block HBi.out.box 6 (.int .i64 m.hi) rfl; have c7 := cell_block HBi.out.box 7 (.int .i64 m.front) rfl; have c8 := cell_block HBi.out.box 8 (.int .i64 m.back) rfl; have c9 := cell_block HBi.out.box 9 (.int .i64 m.least) rfl; have cp0 := cell_block HBi.out.p 0 (.int .i64 i0) rfl; have cp1 := cell_block HBi.out.p 1 (.int .i64 j0) rfl; have cp2 := cell_block HBi.out.p 2 (.string s) rfl
            by_cases hul : q + u < s.size
            · obtain ⟨c2, hcq2⟩ : ∃ c2, s[q + u] = c2 := ⟨_, rfl⟩
              have hg2 : s.data.toList[q + u]? = some c2 := by rw [← hcq2]; exact ba_list s (q + u) hul
              by_cases hsame : c2 = c
              · have f2 : (((s[q + u]).toNat : Int) == (c.toNat : Int)) = true := by rw [hcq2, hsame]; simp
                have HU2 : Hid (∀ t, t < u + 1 → s.data.toList[q + t]? = some c) := fun t ht => by
                  by_cases he : t = u
                  · rw [he, hg2, hsame]
                  · exact HU.out t (by omega)
                clear hg2 hsame hcq2 hkd
                go_wp2
                go_roundw
                case rel => exact ⟨u + 1, by omega, by go_num, by go_num, HU2.out, HBi.out⟩
                case measure => simp [intOf]; omega
              · have f2 : (((s[q + u]).toNat : Int) == (c.toNat : Int)) = false := by rw [hcq2, u8_int]; simpa using hsame
                have hend : s.data.toList[q + u]? ≠ some c := by rw [hg2]; simpa using hsame
                have hu1 : 1 ≤ u := by
                  rcases Nat.eq_zero_or_pos u with h0 | h0
                  · subst h0; exact absurd HG.out hend
                  · exact h0
                clear hg2 hsame hcq2
                have hrun := wGo_run (m := m) (xs := xs) (ys := ys) (nx := xn) (ny := yn) h77 u q a b t 0 hu1 HU.out hend HS1.out
                rw [Int.zero_add] at hrun
                have hfew := run_few hkd hc.1 hc.2.2.1 hrun.2.1
                have hum : (u : Int) ≤ most (wid m) := by have := HLn.out; omega
                have hcs := cost_is HF.out.right hgne (show (1 : Int) ≤ u by omega) hum
                have hnc := hasB_cells hrun.2.1
                obtain ⟨lv, hlv⟩ : ∃ lv, leastB (u : Int) m.gaps = lv := ⟨_, rfl⟩
                obtain ⟨ce, hce⟩ : ∃ ce, costE (u : Int) m.gaps = ce := ⟨_, rfl⟩
                rw [hlv] at hrun hcs
                have CC : Hid (∀ W, Below w.heap.size w W → Calls Try.prog 11 #[.int .i64 u, .slice ga gn gc] W fun e w' => e = .returned (.tuple #[.int .i64 lv, .int .i64 ce]) ∧ Below W.heap.size W w') := fun W hb => by
                  have := costR_calls (u : Int) ga gn gc m.gaps W ((HF.out.below hb).md.gaps)
                  rw [hcs, hce] at this
                  exact this
                rw [HWg.out] at hrun
                have HW2 : Hid ((RS, RJ) = wGo m xs ys (a + u * dnB c) (b + u * ovB c) (wrap64 (t - lv)) 0 (s.data.toList.drop (q + u)) ∧ hasB m xn yn (a + u * dnB c) (b + u * ovB c) = true ∧ stepsB m xn yn (a + u * dnB c) (b + u * ovB c) (s.data.toList.drop (q + u)) = true) := hrun
                have hdn := dn_rng c
                have hov := ov_rng c
                have hud : 0 ≤ (u : Int) * dnB c ∧ (u : Int) * dnB c ≤ 65536 := mul_bd (by omega) (by omega) hdn
                have huo : 0 ≤ (u : Int) * ovB c ∧ (u : Int) * ovB c ≤ 65536 := mul_bd (by omega) (by omega) hov
                clear hrun hcs hlv hce hum hend hkd hfew
                go_wp2_with fail
                refine (CC.out _ HBi.out.low).mono ?_
                rintro e w4 ⟨rfl, hb4⟩
                have HB4 : Hid (S2 w (mdCells m sa sn sc ga gn gc) #[.int .i64 i0, .int .i64 j0, .string s] w4) := HBi.out.next hb4
                clear hb4 HBi
                clear c0 c1 c2 c3 c4 c5 c6 c7 c8 c9 cp0 cp1 cp2
                have c0 := cell_block HB4.out.box 0 (.int .i64 m.letters) rfl; have c1 := cell_block HB4.out.box 1 (.slice sa sn sc) rfl; have c2 := cell_block HB4.out.box 2 (.slice ga gn gc) rfl; have c3 := cell_block HB4.out.box 3 (.int .i64 m.mode) rfl; have c4 := cell_block HB4.out.box 4 (.bool m.banded) rfl; have c5 := cell_block HB4.out.box 5 (.int .i64 m.lo) rfl; have c6 := cell_block HB4.out.box 6 (.int .i64 m.hi) rfl; have c7 := cell_block HB4.out.box 7 (.int .i64 m.front) rfl; have c8 := cell_block HB4.out.box 8 (.int .i64 m.back) rfl; have c9 := cell_block HB4.out.box 9 (.int .i64 m.least) rfl; have cp0 := cell_block HB4.out.p 0 (.int .i64 i0) rfl; have cp1 := cell_block HB4.out.p 1 (.int .i64 j0) rfl; have cp2 := cell_block HB4.out.p 2 (.string s) rfl
                go_wp2_with fail
                refine (down_calls c _).mono ?_
                rintro e w5 ⟨rfl, rfl⟩
                go_wp2_with fail
                refine (over_calls c _).mono ?_
                rintro e w6 ⟨rfl, rfl⟩
                go_wp2
                go_roundw
                case rel =>
                  exact ⟨q + u, a + u * dnB c, b + u * ovB c, wrap64 (t - lv), by omega, by go_num, rfl, rfl, rfl, ⟨HW2.out.2.1, HW2.out.2.2, HW2.out.1.symm⟩, HB4.out⟩
                case measure => simp [intOf]; omega
            · have hend : s.data.toList[q + u]? ≠ some c := by rw [List.getElem?_eq_none (by rw [ba_size]; omega)]; simp
              have hu1 : 1 ≤ u := by omega
              have hrun := wGo_run (m := m) (xs := xs) (ys := ys) (nx := xn) (ny := yn) h77 u q a b t 0 hu1 HU.out hend HS1.out
              rw [Int.zero_add] at hrun
              have hfew := run_few hkd hc.1 hc.2.2.1 hrun.2.1
              have hum : (u : Int) ≤ most (wid m) := by have := HLn.out; omega
              have hcs := cost_is HF.out.right hgne (show (1 : Int) ≤ u by omega) hum
              have hnc := hasB_cells hrun.2.1
              obtain ⟨lv, hlv⟩ : ∃ lv, leastB (u : Int) m.gaps = lv := ⟨_, rfl⟩
              obtain ⟨ce, hce⟩ : ∃ ce, costE (u : Int) m.gaps = ce := ⟨_, rfl⟩
              rw [hlv] at hrun hcs
              have CC : Hid (∀ W, Below w.heap.size w W → Calls Try.prog 11 #[.int .i64 u, .slice ga gn gc] W fun e w' => e = .returned (.tuple #[.int .i64 lv, .int .i64 ce]) ∧ Below W.heap.size W w') := fun W hb => by
                have := costR_calls (u : Int) ga gn gc m.gaps W ((HF.out.below hb).md.gaps)
                rw [hcs, hce] at this
                exact this
              rw [HWg.out] at hrun
              have HW2 : Hid ((RS, RJ) = wGo m xs ys (a + u * dnB c) (b + u * ovB c) (wrap64 (t - lv)) 0 (s.data.toList.drop (q + u)) ∧ hasB m xn yn (a + u * dnB c) (b + u * ovB c) = true ∧ stepsB m xn yn (a + u * dnB c) (b + u * ovB c) (s.data.toList.drop (q + u)) = true) := hrun
              have hdn := dn_rng c
              have hov := ov_rng c
              have hud : 0 ≤ (u : Int) * dnB c ∧ (u : Int) * dnB c ≤ 65536 := mul_bd (by omega) (by omega) hdn
              have huo : 0 ≤ (u : Int) * ovB c ∧ (u : Int) * ovB c ≤ 65536 := mul_bd (by omega) (by omega) hov
              clear hrun hcs hlv hce hum hend hkd hfew
              go_wp2_with fail
              refine (CC.out _ HBi.out.low).mono ?_
              rintro e w4 ⟨rfl, hb4⟩
              have HB4 : Hid (S2 w (mdCells m sa sn sc ga gn gc) #[.int .i64 i0, .int .i64 j0, .string s] w4) := HBi.out.next hb4
              clear hb4 HBi
              clear c0 c1 c2 c3 c4 c5 c6 c7 c8 c9 cp0 cp1 cp2
              have c0 := cell_block HB4.out.box 0 (.int .i64 m.letters) rfl; have c1 := cell_block HB4.out.box 1 (.slice sa sn sc) rfl; have c2 := cell_block HB4.out.box 2 (.slice ga gn gc) rfl; have c3 := cell_block HB4.out.box 3 (.int .i64 m.mode) rfl; have c4 := cell_block HB4.out.box 4 (.bool m.banded) rfl; have c5 := cell_block HB4.out.box 5 (.int .i64 m.lo) rfl; have c6 := cell_block HB4.out.box 6 (.int .i64 m.hi) rfl; have c7 := cell_block HB4.out.box 7 (.int .i64 m.front) rfl; have c8 := cell_block HB4.out.box 8 (.int .i64 m.back) rfl; have c9 := cell_block HB4.out.box 9 (.int .i64 m.least) rfl; have cp0 := cell_block HB4.out.p 0 (.int .i64 i0) rfl; have cp1 := cell_block HB4.out.p 1 (.int .i64 j0) rfl; have cp2 := cell_block HB4.out.p 2 (.string s) rfl
              go_wp2_with fail
              refine (down_calls c _).mono ?_
              rintro e w5 ⟨rfl, rfl⟩
              go_wp2_with fail
              refine (over_calls c _).mono ?_
              rintro e w6 ⟨rfl, rfl⟩
              go_wp2
              go_roundw
              case rel =>
                exact ⟨q + u, a + u * dnB c, b + u * ovB c, wrap64 (t - lv), by omega, by go_num, rfl, rfl, rfl, ⟨HW2.out.2.1, HW2.out.2.2, HW2.out.1.symm⟩, HB4.out⟩
              case measure => simp [intOf]; omega
      · have hqe : s.data.toList.drop q = [] := List.drop_eq_nil_of_le (by rw [ba_size]; omega)
        have hfin := HWg.out
        rw [hqe] at hfin
        simp only [wGo, Prod.mk.injEq] at hfin
        obtain ⟨rfl, rfl⟩ := hfin
        clear HWg HS1
        by_cases hbj : b < (yn : Int)
        · have HE := HW.out
          rw [if_pos hbj] at HE
          have HE2 : Hid (worthW m xs ys ⟨i0, j0, s.data.toList⟩ = wrap64 (t - m.back)) := HE
          clear HE HW
          go_wp2
          go_ret
          exact ⟨ret_int (by rw [HE2.out]), HBr.out.low⟩
        · have HE := HW.out
          rw [if_neg hbj] at HE
          have HE2 : Hid (worthW m xs ys ⟨i0, j0, s.data.toList⟩ = t) := HE
          clear HE HW
          go_wp2
          go_ret
          exact ⟨ret_int (by rw [HE2.out]), HBr.out.low⟩

  · have hf0' : f0 = 0 := by rw [← hf0, if_neg hj0]
    subst hf0'
    clear hf0
    go_wp2
    go_loopw [9, 10, 11, 12] (fun zc i j k wr => ∃ (q : Nat) (a b t : Int), q ≤ s.size ∧ k = .int .i64 q ∧ i = .int .i64 a ∧ j = .int .i64 b ∧ zc = .int .i64 t ∧ (hasB m xn yn a b = true ∧ stepsB m xn yn a b (s.data.toList.drop q) = true ∧ wGo m xs ys a b t 0 (s.data.toList.drop q) = (RS, RJ)) ∧ S2 w (mdCells m sa sn sc ga gn gc) #[.int .i64 i0, .int .i64 j0, .string s] wr) (fun _ _ _ k _ => s.size - (intOf k).toNat)
    case atStart => exact ⟨0, i0, j0, 0, Nat.zero_le _, rfl, rfl, rfl, by simp, HR0.out, HB1.out⟩
    case round =>
      clear c0 c1 c2 c3 c4 c5 c6 c7 c8 c9 cp0 cp1 cp2
      obtain ⟨q, a, b, t, hq, rfl, rfl, rfl, rfl, hr, hB⟩ := hrel
      obtain ⟨hab, hr⟩ := hr
      have hc := hasB_cells hab
      have HS1 : Hid (stepsB m xn yn a b (s.data.toList.drop q) = true) := hr.1
      have HWg : Hid (wGo m xs ys a b t 0 (s.data.toList.drop q) = (RS, RJ)) := hr.2
      have HBr : Hid (S2 w (mdCells m sa sn sc ga gn gc) #[.int .i64 i0, .int .i64 j0, .string s] wr) := hB
      clear hr hB hab HR0 HB1
      have c0 := cell_block HBr.out.box 0 (.int .i64 m.letters) rfl; have c1 := cell_block HBr.out.box 1 (.slice sa sn sc) rfl; have c2 := cell_block HBr.out.box 2 (.slice ga gn gc) rfl; have c3 := cell_block HBr.out.box 3 (.int .i64 m.mode) rfl; have c4 := cell_block HBr.out.box 4 (.bool m.banded) rfl; have c5 := cell_block HBr.out.box 5 (.int .i64 m.lo) rfl; have c6 := cell_block HBr.out.box 6 (.int .i64 m.hi) rfl; have c7 := cell_block HBr.out.box 7 (.int .i64 m.front) rfl; have c8 := cell_block HBr.out.box 8 (.int .i64 m.back) rfl; have c9 := cell_block HBr.out.box 9 (.int .i64 m.least) rfl; have cp0 := cell_block HBr.out.p 0 (.int .i64 i0) rfl; have cp1 := cell_block HBr.out.p 1 (.int .i64 j0) rfl; have cp2 := cell_block HBr.out.p 2 (.string s) rfl
      by_cases hql : q < s.size
      · obtain ⟨c, hcq⟩ : ∃ c, s[q] = c := ⟨_, rfl⟩
        have HG : Hid (s.data.toList[q]? = some c) := by rw [← hcq]; exact ba_list s q hql
        have hst := HS1.out
        rw [stepsB_cons HG.out] at hst
        simp only [Bool.and_eq_true] at hst
        obtain ⟨⟨hgo, hhas⟩, hst2⟩ := hst
        have HQ : Hid (s[q] = c) := hcq
        rcases goB_kinds hgo with rfl | ⟨hkd, hgne⟩
        · have hwg := HWg.out
          rw [wGo_cons HG.out, if_pos rfl] at hwg
          have hc2 := hasB_cells hhas
          have HN : Hid (hasB m xn yn (a + dnB 77) (b + ovB 77) = true ∧ stepsB m xn yn (a + dnB 77) (b + ovB 77) (s.data.toList.drop (q + 1)) = true) := ⟨hhas, hst2⟩
          clear hst2 hhas HS1 HWg hgo
          have hd1 : dnB 77 = 1 := rfl
          have ho1 : ovB 77 = 1 := rfl
          rw [hd1, ho1] at hwg HN hc2
          obtain ⟨an, rfl⟩ := Int.eq_ofNat_of_zero_le hc.1
          obtain ⟨bn, rfl⟩ := Int.eq_ofNat_of_zero_le hc.2.2.1
          obtain ⟨bx, ox, by_, oy, bs_, os, xv, yv, pv, ix, rfl, rfl, rfl, cx, cy, hpv0, hxv, hpr, hyv, hix, hixl, csb⟩ := sub_at (HF.out.below HBr.out.low) (a := an) (b := bn) (by omega) (by omega)
          have hpv : m.letters * xv = pv := by rw [Int.mul_comm]; exact hpv0
          have f1 : (((s[q]).toNat : Int) == 77) = true := by rw [HQ.out]; rfl
          obtain ⟨sv, hsv⟩ : ∃ sv, subB m xs ys ((an : Int) + 1) ((bn : Int) + 1) = sv := ⟨_, rfl⟩
          rw [hsv] at csb hwg
          have HW2 : Hid (wGo m xs ys ((an : Int) + 1) ((bn : Int) + 1) (wrap64 (t + sv)) 0 (s.data.toList.drop (q + 1)) = (RS, RJ)) := hwg
          clear hwg hsv hpv0 hcq
          go_wp2
          go_quiet (fail)
          go_wp2
          go_roundw
          case rel =>
            exact ⟨q + 1, (an : Int) + 1, (bn : Int) + 1, wrap64 (t + sv), by omega, by go_num, rfl, rfl, rfl, ⟨HN.out.1, HN.out.2, HW2.out⟩, HBr.out.drewN _⟩
          case measure => simp [intOf]; omega
        · have h77 : c ≠ 77 := by rcases hkd with rfl | rfl <;> decide
          have f1 : ((c.toNat : Int) == 77) = false := u8_77 h77
          clear hgo hhas hst2
          go_wp2
          obtain ⟨wo, rfl⟩ : ∃ wo : World, wo = wr := ⟨_, rfl⟩
          go_loopw [12, 14] (fun k n wr => ∃ (u : Nat), q + u ≤ s.size ∧ k = .int .i64 ((q + u : Nat) : Int) ∧ n = .int .i64 u ∧ (∀ t, t < u → s.data.toList[q + t]? = some c) ∧ S2 w (mdCells m sa sn sc ga gn gc) #[.int .i64 i0, .int .i64 j0, .string s] wr) (fun k _ _ => s.size - (intOf k).toNat)
          case atStart => exact ⟨0, by omega, by simp, rfl, fun t ht => by omega, HBr.out⟩
          case round =>
            clear c0 c1 c2 c3 c4 c5 c6 c7 c8 c9 cp0 cp1 cp2
            obtain ⟨u, hu, rfl, rfl, hall, hB⟩ := hrel
            have HU : Hid (∀ t, t < u → s.data.toList[q + t]? = some c) := hall
            have HBi : Hid (S2 w (mdCells m sa sn sc ga gn gc) #[.int .i64 i0, .int .i64 j0, .string s] wr) := hB
            clear hall hB HBr
            have c0 := cell_block HBi.out.box 0 (.int .i64 m.letters) rfl; have c1 := cell_block HBi.out.box 1 (.slice sa sn sc) rfl; have c2 := cell_block HBi.out.box 2 (.slice ga gn gc) rfl; have c3 := cell_block HBi.out.box 3 (.int .i64 m.mode) rfl; have c4 := cell_block HBi.out.box 4 (.bool m.banded) rfl; have c5 := cell_block HBi.out.box 5 (.int .i64 m.lo) rfl; have c6 := cell_block HBi.out.box 6 (.int .i64 m.hi) rfl; have c7 := cell_block HBi.out.box 7 (.int .i64 m.front) rfl; have c8 := cell_block HBi.out.box 8 (.int .i64 m.back) rfl; have c9 := cell_block HBi.out.box 9 (.int .i64 m.least) rfl; have cp0 := cell_block HBi.out.p 0 (.int .i64 i0) rfl; have cp1 := cell_block HBi.out.p 1 (.int .i64 j0) rfl; have cp2 := cell_block HBi.out.p 2 (.string s) rfl
            by_cases hul : q + u < s.size
            · obtain ⟨c2, hcq2⟩ : ∃ c2, s[q + u] = c2 := ⟨_, rfl⟩
              have hg2 : s.data.toList[q + u]? = some c2 := by rw [← hcq2]; exact ba_list s (q + u) hul
              by_cases hsame : c2 = c
              · have f2 : (((s[q + u]).toNat : Int) == (c.toNat : Int)) = true := by rw [hcq2, hsame]; simp
                have HU2 : Hid (∀ t, t < u + 1 → s.data.toList[q + t]? = some c) := fun t ht => by
                  by_cases he : t = u
                  · rw [he, hg2, hsame]
                  · exact HU.out t (by omega)
                clear hg2 hsame hcq2 hkd
                go_wp2
                go_roundw
                case rel => exact ⟨u + 1, by omega, by go_num, by go_num, HU2.out, HBi.out⟩
                case measure => simp [intOf]; omega
              · have f2 : (((s[q + u]).toNat : Int) == (c.toNat : Int)) = false := by rw [hcq2, u8_int]; simpa using hsame
                have hend : s.data.toList[q + u]? ≠ some c := by rw [hg2]; simpa using hsame
                have hu1 : 1 ≤ u := by
                  rcases Nat.eq_zero_or_pos u with h0 | h0
                  · subst h0; exact absurd HG.out hend
                  · exact h0
                clear hg2 hsame hcq2
                have hrun := wGo_run (m := m) (xs := xs) (ys := ys) (nx := xn) (ny := yn) h77 u q a b t 0 hu1 HU.out hend HS1.out
                rw [Int.zero_add] at hrun
                have hfew := run_few hkd hc.1 hc.2.2.1 hrun.2.1
                have hum : (u : Int) ≤ most (wid m) := by have := HLn.out; omega
                have hcs := cost_is HF.out.right hgne (show (1 : Int) ≤ u by omega) hum
                have hnc := hasB_cells hrun.2.1
                obtain ⟨lv, hlv⟩ : ∃ lv, leastB (u : Int) m.gaps = lv := ⟨_, rfl⟩
                obtain ⟨ce, hce⟩ : ∃ ce, costE (u : Int) m.gaps = ce := ⟨_, rfl⟩
                rw [hlv] at hrun hcs
                have CC : Hid (∀ W, Below w.heap.size w W → Calls Try.prog 11 #[.int .i64 u, .slice ga gn gc] W fun e w' => e = .returned (.tuple #[.int .i64 lv, .int .i64 ce]) ∧ Below W.heap.size W w') := fun W hb => by
                  have := costR_calls (u : Int) ga gn gc m.gaps W ((HF.out.below hb).md.gaps)
                  rw [hcs, hce] at this
                  exact this
                rw [HWg.out] at hrun
                have HW2 : Hid ((RS, RJ) = wGo m xs ys (a + u * dnB c) (b + u * ovB c) (wrap64 (t - lv)) 0 (s.data.toList.drop (q + u)) ∧ hasB m xn yn (a + u * dnB c) (b + u * ovB c) = true ∧ stepsB m xn yn (a + u * dnB c) (b + u * ovB c) (s.data.toList.drop (q + u)) = true) := hrun
                have hdn := dn_rng c
                have hov := ov_rng c
                have hud : 0 ≤ (u : Int) * dnB c ∧ (u : Int) * dnB c ≤ 65536 := mul_bd (by omega) (by omega) hdn
                have huo : 0 ≤ (u : Int) * ovB c ∧ (u : Int) * ovB c ≤ 65536 := mul_bd (by omega) (by omega) hov
                clear hrun hcs hlv hce hum hend hkd hfew
                go_wp2_with fail
                refine (CC.out _ HBi.out.low).mono ?_
                rintro e w4 ⟨rfl, hb4⟩
                have HB4 : Hid (S2 w (mdCells m sa sn sc ga gn gc) #[.int .i64 i0, .int .i64 j0, .string s] w4) := HBi.out.next hb4
                clear hb4 HBi
                clear c0 c1 c2 c3 c4 c5 c6 c7 c8 c9 cp0 cp1 cp2
                have c0 := cell_block HB4.out.box 0 (.int .i64 m.letters) rfl; have c1 := cell_block HB4.out.box 1 (.slice sa sn sc) rfl; have c2 := cell_block HB4.out.box 2 (.slice ga gn gc) rfl; have c3 := cell_block HB4.out.box 3 (.int .i64 m.mode) rfl; have c4 := cell_block HB4.out.box 4 (.bool m.banded) rfl; have c5 := cell_block HB4.out.box 5 (.int .i64 m.lo) rfl; have c6 := cell_block HB4.out.box 6 (.int .i64 m.hi) rfl; have c7 := cell_block HB4.out.box 7 (.int .i64 m.front) rfl; have c8 := cell_block HB4.out.box 8 (.int .i64 m.back) rfl; have c9 := cell_block HB4.out.box 9 (.int .i64 m.least) rfl; have cp0 := cell_block HB4.out.p 0 (.int .i64 i0) rfl; have cp1 := cell_block HB4.out.p 1 (.int .i64 j0) rfl; have cp2 := cell_block HB4.out.p 2 (.string s) rfl
                go_wp2_with fail
                refine (down_calls c _).mono ?_
                rintro e w5 ⟨rfl, rfl⟩
                go_wp2_with fail
                refine (over_calls c _).mono ?_
                rintro e w6 ⟨rfl, rfl⟩
                go_wp2
                go_roundw
                case rel =>
                  exact ⟨q + u, a + u * dnB c, b + u * ovB c, wrap64 (t - lv), by omega, by go_num, rfl, rfl, rfl, ⟨HW2.out.2.1, HW2.out.2.2, HW2.out.1.symm⟩, HB4.out⟩
                case measure => simp [intOf]; omega
            · have hend : s.data.toList[q + u]? ≠ some c := by rw [List.getElem?_eq_none (by rw [ba_size]; omega)]; simp
              have hu1 : 1 ≤ u := by omega
              have hrun := wGo_run (m := m) (xs := xs) (ys := ys) (nx := xn) (ny := yn) h77 u q a b t 0 hu1 HU.out hend HS1.out
              rw [Int.zero_add] at hrun
              have hfew := run_few hkd hc.1 hc.2.2.1 hrun.2.1
              have hum : (u : Int) ≤ most (wid m) := by have := HLn.out; omega
              have hcs := cost_is HF.out.right hgne (show (1 : Int) ≤ u by omega) hum
              have hnc := hasB_cells hrun.2.1
              obtain ⟨lv, hlv⟩ : ∃ lv, leastB (u : Int) m.gaps = lv := ⟨_, rfl⟩
              obtain ⟨ce, hce⟩ : ∃ ce, costE (u : Int) m.gaps = ce := ⟨_, rfl⟩
              rw [hlv] at hrun hcs
              have CC : Hid (∀ W, Below w.heap.size w W → Calls Try.prog 11 #[.int .i64 u, .slice ga gn gc] W fun e w' => e = .returned (.tuple #[.int .i64 lv, .int .i64 ce]) ∧ Below W.heap.size W w') := fun W hb => by
                have := costR_calls (u : Int) ga gn gc m.gaps W ((HF.out.below hb).md.gaps)
                rw [hcs, hce] at this
                exact this
              rw [HWg.out] at hrun
              have HW2 : Hid ((RS, RJ) = wGo m xs ys (a + u * dnB c) (b + u * ovB c) (wrap64 (t - lv)) 0 (s.data.toList.drop (q + u)) ∧ hasB m xn yn (a + u * dnB c) (b + u * ovB c) = true ∧ stepsB m xn yn (a + u * dnB c) (b + u * ovB c) (s.data.toList.drop (q + u)) = true) := hrun
              have hdn := dn_rng c
              have hov := ov_rng c
              have hud : 0 ≤ (u : Int) * dnB c ∧ (u : Int) * dnB c ≤ 65536 := mul_bd (by omega) (by omega) hdn
              have huo : 0 ≤ (u : Int) * ovB c ∧ (u : Int) * ovB c ≤ 65536 := mul_bd (by omega) (by omega) hov
              clear hrun hcs hlv hce hum hend hkd hfew
              go_wp2_with fail
              refine (CC.out _ HBi.out.low).mono ?_
              rintro e w4 ⟨rfl, hb4⟩
              have HB4 : Hid (S2 w (mdCells m sa sn sc ga gn gc) #[.int .i64 i0, .int .i64 j0, .string s] w4) := HBi.out.next hb4
              clear hb4 HBi
              clear c0 c1 c2 c3 c4 c5 c6 c7 c8 c9 cp0 cp1 cp2
              have c0 := cell_block HB4.out.box 0 (.int .i64 m.letters) rfl; have c1 := cell_block HB4.out.box 1 (.slice sa sn sc) rfl; have c2 := cell_block HB4.out.box 2 (.slice ga gn gc) rfl; have c3 := cell_block HB4.out.box 3 (.int .i64 m.mode) rfl; have c4 := cell_block HB4.out.box 4 (.bool m.banded) rfl; have c5 := cell_block HB4.out.box 5 (.int .i64 m.lo) rfl; have c6 := cell_block HB4.out.box 6 (.int .i64 m.hi) rfl; have c7 := cell_block HB4.out.box 7 (.int .i64 m.front) rfl; have c8 := cell_block HB4.out.box 8 (.int .i64 m.back) rfl; have c9 := cell_block HB4.out.box 9 (.int .i64 m.least) rfl; have cp0 := cell_block HB4.out.p 0 (.int .i64 i0) rfl; have cp1 := cell_block HB4.out.p 1 (.int .i64 j0) rfl; have cp2 := cell_block HB4.out.p 2 (.string s) rfl
              go_wp2_with fail
              refine (down_calls c _).mono ?_
              rintro e w5 ⟨rfl, rfl⟩
              go_wp2_with fail
              refine (over_calls c _).mono ?_
              rintro e w6 ⟨rfl, rfl⟩
              go_wp2
              go_roundw
              case rel =>
                exact ⟨q + u, a + u * dnB c, b + u * ovB c, wrap64 (t - lv), by omega, by go_num, rfl, rfl, rfl, ⟨HW2.out.2.1, HW2.out.2.2, HW2.out.1.symm⟩, HB4.out⟩
              case measure => simp [intOf]; omega
      · have hqe : s.data.toList.drop q = [] := List.drop_eq_nil_of_le (by rw [ba_size]; omega)
        have hfin := HWg.out
        rw [hqe] at hfin
        simp only [wGo, Prod.mk.injEq] at hfin
        obtain ⟨rfl, rfl⟩ := hfin
        clear HWg HS1
        by_cases hbj : b < (yn : Int)
        · have HE := HW.out
          rw [if_pos hbj] at HE
          have HE2 : Hid (worthW m xs ys ⟨i0, j0, s.data.toList⟩ = wrap64 (t - m.back)) := HE
          clear HE HW
          go_wp2
          go_ret
          exact ⟨ret_int (by rw [HE2.out]), HBr.out.low⟩
        · have HE := HW.out
          rw [if_neg hbj] at HE
          have HE2 : Hid (worthW m xs ys ⟨i0, j0, s.data.toList⟩ = t) := HE
          clear HE HW
          go_wp2
          go_ret
          exact ⟨ret_int (by rw [HE2.out]), HBr.out.low⟩


end Go.Proofs.Ytegndeefddlccaa
