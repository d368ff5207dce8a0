/-
  The document's legal and Legal.
-/
import Derived.Test.YtegndeefddlccaaPqA
namespace Go.Proofs.Ytegndeefddlccaa
open Go.RowKit

theorem u8_nb {c : UInt8} (d : UInt8) (h : c ≠ d) : ((c.toNat : Int) != (d.toNat : Int)) = true := by simp only [bne, u8_int]; simpa using h
set_option maxRecDepth 20000 in
set_option maxHeartbeats 2000000 in
theorem legalR_calls (m : Md) (sa : Option Addr) (sn sc : Nat) (ga : Option Addr) (gn gc : Nat) (xa : Option Addr) (xn xc : Nat) (ya : Option Addr) (yn yc : Nat) (i0 j0 : Int) (s : ByteArray) (w : World) (hx : xn ≤ maxLen) (hy : yn ≤ maxLen) (hx2 : xn ≤ 1000000) (hy2 : yn ≤ 1000000) (hg : m.gaps.length = gn) (hgs : gn ≤ maxLen) (hs : s.size ≤ maxLen) :
    Calls Try.prog 29 #[.agg (mdCells m sa sn sc ga gn gc), .slice xa xn xc, .slice ya yn yc, .agg #[.int .i64 i0, .int .i64 j0, .string s]] w fun e w' => e = .returned (.bool (allowsB m xn yn ⟨i0, j0, s.data.toList⟩)) ∧ Below w.heap.size w w' := by
  have HB0 : Hid (S2 w (mdCells m sa sn sc ga gn gc) #[.int .i64 i0, .int .i64 j0, .string s] ((w.alloc (.cells (mdCells m sa sn sc ga gn gc) 31)).alloc (.cells #[.int .i64 i0, .int .i64 j0, .string s] 33))) := S2.start w _ _
  have HX : Hid (xn ≤ maxLen ∧ yn ≤ maxLen) := ⟨hx, hy⟩
  have HAl : Hid (allowsB m xn yn ⟨i0, j0, s.data.toList⟩ = ((hasB m xn yn i0 j0 && beginB m i0 j0) && stepsB m xn yn i0 j0 (s.data.toList.drop 0))) := by show _ = _; simp [allowsB]
  obtain ⟨R, hR⟩ : ∃ R, allowsB m xn yn ⟨i0, j0, s.data.toList⟩ = R := ⟨_, rfl⟩
  rw [hR] at HAl ⊢
  clear hR
  unfold maxLen at hs hgs
  clear hx hy
  have c0 := cell_block HB0.out.box 0 (.int .i64 m.letters) rfl; have c1 := cell_block HB0.out.box 1 (.slice sa sn sc) rfl; have c2 := cell_block HB0.out.box 2 (.slice ga gn gc) rfl; have c3 := cell_block HB0.out.box 3 (.int .i64 m.mode) rfl; have c4 := cell_block HB0.out.box 4 (.bool m.banded) rfl; have c5 := cell_block HB0.out.box 5 (.int .i64 m.lo) rfl; have c6 := cell_block HB0.out.box 6 (.int .i64 m.hi) rfl; have c7 := cell_block HB0.out.box 7 (.int .i64 m.front) rfl; have c8 := cell_block HB0.out.box 8 (.int .i64 m.back) rfl; have c9 := cell_block HB0.out.box 9 (.int .i64 m.least) rfl; have cp0 := cell_block HB0.out.p 0 (.int .i64 i0) rfl; have cp1 := cell_block HB0.out.p 1 (.int .i64 j0) rfl; have cp2 := cell_block HB0.out.p 2 (.string s) rfl
  obtain ⟨hb, hhb⟩ : ∃ r, hasB m xn yn i0 j0 = r := ⟨_, rfl⟩
  obtain ⟨bb, hbb⟩ : ∃ r, beginB m i0 j0 = r := ⟨_, rfl⟩
  have HH : Hid (hasB m xn yn i0 j0 = hb) := hhb
  have CH : Hid (∀ W, Calls Try.prog 34 #[.agg #[.int .i64 m.letters, .slice sa sn sc, .slice ga gn gc, .int .i64 m.mode, .bool m.banded, .int .i64 m.lo, .int .i64 m.hi, .int .i64 m.front, .int .i64 m.back, .int .i64 m.least], .int .i64 xn, .int .i64 yn, .int .i64 i0, .int .i64 j0] W fun e w' => e = .returned (.bool hb) ∧ Below W.heap.size W w') := fun W => by rw [← hhb]; exact counts_calls m sa sn sc ga gn gc xn yn i0 j0 W HX.out.1 HX.out.2
  have CB : Hid (∀ W, Calls Try.prog 35 #[.agg #[.int .i64 m.letters, .slice sa sn sc, .slice ga gn gc, .int .i64 m.mode, .bool m.banded, .int .i64 m.lo, .int .i64 m.hi, .int .i64 m.front, .int .i64 m.back, .int .i64 m.least], .int .i64 i0, .int .i64 j0] W fun e w' => e = .returned (.bool bb) ∧ Below W.heap.size W w') := fun W => by rw [← hbb]; exact beginsR_calls m sa sn sc ga gn gc i0 j0 W
  rw [hhb, hbb] at HAl
  clear hhb hbb
  rw [show mdCells m sa sn sc ga gn gc = #[.int .i64 m.letters, .slice sa sn sc, .slice ga gn gc, .int .i64 m.mode, .bool m.banded, .int .i64 m.lo, .int .i64 m.hi, .int .i64 m.front, .int .i64 m.back, .int .i64 m.least] from rfl]
  go_enter Try.func29, Try.ntmps29
  go_wp2_with fail
  refine (CH.out _).mono ?_
  rintro e w1 ⟨rfl, hb1⟩
  have HB1 : Hid (S2 w (mdCells m sa sn sc ga gn gc) #[.int .i64 i0, .int .i64 j0, .string s] w1) := HB0.out.next hb1
  clear hb1 HB0
  clear c0 c1 c2 c3 c4 c5 c6 c7 c8 c9 cp0 cp1 cp2
  have c0 := cell_block HB1.out.box 0 (.int .i64 m.letters) rfl; have c1 := cell_block HB1.out.box 1 (.slice sa sn sc) rfl; have c2 := cell_block HB1.out.box 2 (.slice ga gn gc) rfl; have c3 := cell_block HB1.out.box 3 (.int .i64 m.mode) rfl; have c4 := cell_block HB1.out.box 4 (.bool m.banded) rfl; have c5 := cell_block HB1.out.box 5 (.int .i64 m.lo) rfl; have c6 := cell_block HB1.out.box 6 (.int .i64 m.hi) rfl; have c7 := cell_block HB1.out.box 7 (.int .i64 m.front) rfl; have c8 := cell_block HB1.out.box 8 (.int .i64 m.back) rfl; have c9 := cell_block HB1.out.box 9 (.int .i64 m.least) rfl; have cp0 := cell_block HB1.out.p 0 (.int .i64 i0) rfl; have cp1 := cell_block HB1.out.p 1 (.int .i64 j0) rfl; have cp2 := cell_block HB1.out.p 2 (.string s) rfl
  go_wp2_with fail
  refine (CB.out _).mono ?_
  rintro e w2 ⟨rfl, hb2⟩
  have HB2 : Hid (S2 w (mdCells m sa sn sc ga gn gc) #[.int .i64 i0, .int .i64 j0, .string s] w2) := HB1.out.next hb2
  clear hb2 HB1 CH CB
  clear c0 c1 c2 c3 c4 c5 c6 c7 c8 c9 cp0 cp1 cp2
  have c0 := cell_block HB2.out.box 0 (.int .i64 m.letters) rfl; have c1 := cell_block HB2.out.box 1 (.slice sa sn sc) rfl; have c2 := cell_block HB2.out.box 2 (.slice ga gn gc) rfl; have c3 := cell_block HB2.out.box 3 (.int .i64 m.mode) rfl; have c4 := cell_block HB2.out.box 4 (.bool m.banded) rfl; have c5 := cell_block HB2.out.box 5 (.int .i64 m.lo) rfl; have c6 := cell_block HB2.out.box 6 (.int .i64 m.hi) rfl; have c7 := cell_block HB2.out.box 7 (.int .i64 m.front) rfl; have c8 := cell_block HB2.out.box 8 (.int .i64 m.back) rfl; have c9 := cell_block HB2.out.box 9 (.int .i64 m.least) rfl; have cp0 := cell_block HB2.out.p 0 (.int .i64 i0) rfl; have cp1 := cell_block HB2.out.p 1 (.int .i64 j0) rfl; have cp2 := cell_block HB2.out.p 2 (.string s) rfl
  cases hb
  · go_wp2
    go_ret
    exact ⟨ret_bool (by rw [HAl.out]; rfl), HB2.out.low⟩
  · cases bb
    · go_wp2
      go_ret
      exact ⟨ret_bool (by rw [HAl.out]; rfl), HB2.out.low⟩
    · have HR : Hid (R = stepsB m xn yn i0 j0 (s.data.toList.drop 0)) := by have := HAl.out; simp only [Bool.true_and] at this; exact this
      clear HAl
      go_wp2
      go_loopw [9, 10, 13] (fun i j k wr => ∃ (q : Nat) (a b : Int), q ≤ s.size ∧ k = .int .i64 q ∧ i = .int .i64 a ∧ j = .int .i64 b ∧ hasB m xn yn a b = true ∧ R = stepsB m xn yn a b (s.data.toList.drop q) ∧ S2 w (mdCells m sa sn sc ga gn gc) #[.int .i64 i0, .int .i64 j0, .string s] wr) (fun _ _ k _ => s.size - (intOf k).toNat)
      case atStart => exact ⟨0, i0, j0, Nat.zero_le _, rfl, rfl, rfl, HH.out, HR.out, HB2.out⟩
      case round =>
        clear c0 c1 c2 c3 c4 c5 c6 c7 c8 c9 cp0 cp1 cp2
        obtain ⟨q, a, b, hq, rfl, rfl, rfl, hab, hr, hB⟩ := hrel
        have hc := hasB_cells hab
        have HR2 : Hid (R = stepsB m xn yn a b (s.data.toList.drop q)) := hr
        have HBr : Hid (S2 w (mdCells m sa sn sc ga gn gc) #[.int .i64 i0, .int .i64 j0, .string s] wr) := hB
        clear hr hB hab HR HH HB2
        have c0 := cell_block HBr.out.box 0 (.int .i64 m.letters) rfl; have c1 := cell_block HBr.out.box 1 (.slice sa sn sc) rfl; have c2 := cell_block HBr.out.box 2 (.slice ga gn gc) rfl; have c3 := cell_block HBr.out.box 3 (.int .i64 m.mode) rfl; have c4 := cell_block HBr.out.box 4 (.bool m.banded) rfl; have c5 := cell_block HBr.out.box 5 (.int .i64 m.lo) rfl; have c6 := cell_block HBr.out.box 6 (.int .i64 m.hi) rfl; have c7 := cell_block HBr.out.box 7 (.int .i64 m.front) rfl; have c8 := cell_block HBr.out.box 8 (.int .i64 m.back) rfl; have c9 := cell_block HBr.out.box 9 (.int .i64 m.least) rfl; have cp0 := cell_block HBr.out.p 0 (.int .i64 i0) rfl; have cp1 := cell_block HBr.out.p 1 (.int .i64 j0) rfl; have cp2 := cell_block HBr.out.p 2 (.string s) rfl
        by_cases hql : q < s.size
        · obtain ⟨c, hcq⟩ : ∃ c, s[q] = c := ⟨_, rfl⟩
          have HG : Hid (s.data.toList[q]? = some c) := by rw [← hcq]; exact ba_list s q hql
          have hdn := dn_rng c
          have hov := ov_rng c
          obtain ⟨gb, hgb⟩ : ∃ r, goB m c = r := ⟨_, rfl⟩
          obtain ⟨hv, hhv⟩ : ∃ r, hasB m xn yn (a + dnB c) (b + ovB c) = r := ⟨_, rfl⟩
          have HS : Hid (R = ((gb && hv) && stepsB m xn yn (a + dnB c) (b + ovB c) (s.data.toList.drop (q + 1)))) := by have := HR2.out; rw [stepsB_cons HG.out, hgb, hhv] at this; exact this
          have HV : Hid (hasB m xn yn (a + dnB c) (b + ovB c) = hv) := hhv
          have CH : Hid (∀ W, Calls Try.prog 34 #[.agg #[.int .i64 m.letters, .slice sa sn sc, .slice ga gn gc, .int .i64 m.mode, .bool m.banded, .int .i64 m.lo, .int .i64 m.hi, .int .i64 m.front, .int .i64 m.back, .int .i64 m.least], .int .i64 xn, .int .i64 yn, .int .i64 (a + dnB c), .int .i64 (b + ovB c)] W fun e w' => e = .returned (.bool hv) ∧ Below W.heap.size W w') := fun W => by rw [← HV.out]; exact counts_calls m sa sn sc ga gn gc xn yn _ _ W HX.out.1 HX.out.2
          have HGo : Hid (goB m c = gb) := hgb
          have HQ : Hid (s[q] = c) := hcq
          clear hgb hhv HG HR2 hcq
          by_cases k1 : c = 77
          · have f1 : (((s[q]).toNat : Int) != 77) = false := by rw [HQ.out, k1]; rfl
            have hgt : gb = true := by rw [← HGo.out, k1]; exact goB_77 m
            subst hgt
            clear HGo k1
            go_wp2_with fail
            rw [HQ.out]
            refine (down_calls c _).mono ?_
            rintro e w3 ⟨rfl, rfl⟩
            go_wp2_with fail
            refine (over_calls c _).mono ?_
            rintro e w4 ⟨rfl, rfl⟩
            go_wp2_with fail
            refine (CH.out _).mono ?_
            rintro e w5 ⟨rfl, hb5⟩
            have HB5 : Hid (S2 w (mdCells m sa sn sc ga gn gc) #[.int .i64 i0, .int .i64 j0, .string s] w5) := HBr.out.next hb5
            clear hb5 HBr
            clear c0 c1 c2 c3 c4 c5 c6 c7 c8 c9 cp0 cp1 cp2
            have c0 := cell_block HB5.out.box 0 (.int .i64 m.letters) rfl; have c1 := cell_block HB5.out.box 1 (.slice sa sn sc) rfl; have c2 := cell_block HB5.out.box 2 (.slice ga gn gc) rfl; have c3 := cell_block HB5.out.box 3 (.int .i64 m.mode) rfl; have c4 := cell_block HB5.out.box 4 (.bool m.banded) rfl; have c5 := cell_block HB5.out.box 5 (.int .i64 m.lo) rfl; have c6 := cell_block HB5.out.box 6 (.int .i64 m.hi) rfl; have c7 := cell_block HB5.out.box 7 (.int .i64 m.front) rfl; have c8 := cell_block HB5.out.box 8 (.int .i64 m.back) rfl; have c9 := cell_block HB5.out.box 9 (.int .i64 m.least) rfl; have cp0 := cell_block HB5.out.p 0 (.int .i64 i0) rfl; have cp1 := cell_block HB5.out.p 1 (.int .i64 j0) rfl; have cp2 := cell_block HB5.out.p 2 (.string s) rfl
            cases hv
            · go_wp2
              go_ret
              exact ⟨ret_bool (by rw [HS.out]; rfl), HB5.out.low⟩
            · go_wp2
              go_roundw
              case rel =>
                exact ⟨q + 1, a + dnB c, b + ovB c, by omega, by go_num, rfl, rfl, HV.out, by rw [HS.out]; simp, HB5.out⟩
              case measure => simp [intOf]; omega
          · have f1 : (((s[q]).toNat : Int) != 77) = true := by rw [HQ.out]; exact u8_nb 77 k1
            by_cases k2 : c = 68
            · have f2 : (((s[q]).toNat : Int) != 68) = false := by rw [HQ.out, k2]; rfl
              have hgt : gb = decide (0 < (gn : Int)) := by rw [← HGo.out]; exact goB_g hg (.inl k2)
              clear HGo k1 k2
              by_cases hg0 : gn = 0
              · have hgb : gb = false := by rw [hgt]; simp [hg0]
                have hge : ((gn : Int) == 0) = true := by simp [hg0]
                subst hgb
                clear hgt hg0
                go_wp2
                go_ret
                exact ⟨ret_bool (by rw [HS.out]; rfl), HBr.out.low⟩
              · have hgb : gb = true := by rw [hgt]; simp; omega
                have hge : ((gn : Int) == 0) = false := by simpa using hg0
                subst hgb
                clear hgt hg0
                go_wp2_with fail
                rw [HQ.out]
                refine (down_calls c _).mono ?_
                rintro e w3 ⟨rfl, rfl⟩
                go_wp2_with fail
                refine (over_calls c _).mono ?_
                rintro e w4 ⟨rfl, rfl⟩
                go_wp2_with fail
                refine (CH.out _).mono ?_
                rintro e w5 ⟨rfl, hb5⟩
                have HB5 : Hid (S2 w (mdCells m sa sn sc ga gn gc) #[.int .i64 i0, .int .i64 j0, .string s] w5) := HBr.out.next hb5
                clear hb5 HBr
                clear c0 c1 c2 c3 c4 c5 c6 c7 c8 c9 cp0 cp1 cp2
                have c0 := cell_block HB5.out.box 0 (.int .i64 m.letters) rfl; have c1 := cell_block HB5.out.box 1 (.slice sa sn sc) rfl; have c2 := cell_block HB5.out.box 2 (.slice ga gn gc) rfl; have c3 := cell_block HB5.out.box 3 (.int .i64 m.mode) rfl; have c4 := cell_block HB5.out.box 4 (.bool m.banded) rfl; have c5 := cell_block HB5.out.box 5 (.int .i64 m.lo) rfl; have c6 := cell_block HB5.out.box 6 (.int .i64 m.hi) rfl; have c7 := cell_block HB5.out.box 7 (.int .i64 m.front) rfl; have c8 := cell_block HB5.out.box 8 (.int .i64 m.back) rfl; have c9 := cell_block HB5.out.box 9 (.int .i64 m.least) rfl; have cp0 := cell_block HB5.out.p 0 (.int .i64 i0) rfl; have cp1 := cell_block HB5.out.p 1 (.int .i64 j0) rfl; have cp2 := cell_block HB5.out.p 2 (.string s) rfl
                cases hv
                · go_wp2
                  go_ret
                  exact ⟨ret_bool (by rw [HS.out]; rfl), HB5.out.low⟩
                · go_wp2
                  go_roundw
                  case rel =>
                    exact ⟨q + 1, a + dnB c, b + ovB c, by omega, by go_num, rfl, rfl, HV.out, by rw [HS.out]; simp, HB5.out⟩
                  case measure => simp [intOf]; omega
            · have f2 : (((s[q]).toNat : Int) != 68) = true := by rw [HQ.out]; exact u8_nb 68 k2
              by_cases k3 : c = 73
              · have f3 : (((s[q]).toNat : Int) != 73) = false := by rw [HQ.out, k3]; rfl
                have hgt : gb = decide (0 < (gn : Int)) := by rw [← HGo.out]; exact goB_g hg (.inr k3)
                clear HGo k1 k2 k3
                by_cases hg0 : gn = 0
                · have hgb : gb = false := by rw [hgt]; simp [hg0]
                  have hge : ((gn : Int) == 0) = true := by simp [hg0]
                  subst hgb
                  clear hgt hg0
                  go_wp2
                  go_ret
                  exact ⟨ret_bool (by rw [HS.out]; rfl), HBr.out.low⟩
                · have hgb : gb = true := by rw [hgt]; simp; omega
                  have hge : ((gn : Int) == 0) = false := by simpa using hg0
                  subst hgb
                  clear hgt hg0
                  go_wp2_with fail
                  rw [HQ.out]
                  refine (down_calls c _).mono ?_
                  rintro e w3 ⟨rfl, rfl⟩
                  go_wp2_with fail
                  refine (over_calls c _).mono ?_
                  rintro e w4 ⟨rfl, rfl⟩
                  go_wp2_with fail
                  refine (CH.out _).mono ?_
                  rintro e w5 ⟨rfl, hb5⟩
                  have HB5 : Hid (S2 w (mdCells m sa sn sc ga gn gc) #[.int .i64 i0, .int .i64 j0, .string s] w5) := HBr.out.next hb5
                  clear hb5 HBr
                  clear c0 c1 c2 c3 c4 c5 c6 c7 c8 c9 cp0 cp1 cp2
                  have c0 := cell_block HB5.out.box 0 (.int .i64 m.letters) rfl; have c1 := cell_block HB5.out.box 1 (.slice sa sn sc) rfl; have c2 := cell_block HB5.out.box 2 (.slice ga gn gc) rfl; have c3 := cell_block HB5.out.box 3 (.int .i64 m.mode) rfl; have c4 := cell_block HB5.out.box 4 (.bool m.banded) rfl; have c5 := cell_block HB5.out.box 5 (.int .i64 m.lo) rfl; have c6 := cell_block HB5.out.box 6 (.int .i64 m.hi) rfl; have c7 := cell_block HB5.out.box 7 (.int .i64 m.front) rfl; have c8 := cell_block HB5.out.box 8 (.int .i64 m.back) rfl; have c9 := cell_block HB5.out.box 9 (.int .i64 m.least) rfl; have cp0 := cell_block HB5.out.p 0 (.int .i64 i0) rfl; have cp1 := cell_block HB5.out.p 1 (.int .i64 j0) rfl; have cp2 := cell_block HB5.out.p 2 (.string s) rfl
                  cases hv
                  · go_wp2
                    go_ret
                    exact ⟨ret_bool (by rw [HS.out]; rfl), HB5.out.low⟩
                  · go_wp2
                    go_roundw
                    case rel =>
                      exact ⟨q + 1, a + dnB c, b + ovB c, by omega, by go_num, rfl, rfl, HV.out, by rw [HS.out]; simp, HB5.out⟩
                    case measure => simp [intOf]; omega
              · have f3 : (((s[q]).toNat : Int) != 73) = true := by rw [HQ.out]; exact u8_nb 73 k3
                have hgb : gb = false := by rw [← HGo.out]; exact goB_no k1 k2 k3
                subst hgb
                clear HGo k1 k2 k3
                go_wp2
                go_ret
                exact ⟨ret_bool (by rw [HS.out]; rfl), HBr.out.low⟩
        · have hqe : s.data.toList.drop q = [] := List.drop_eq_nil_of_le (by rw [ba_size]; omega)
          have HE : Hid (R = endB m xn yn a b) := by have := HR2.out; rw [hqe] at this; exact this
          clear hqe
          go_wp2_with fail
          refine (endsR_calls m sa sn sc ga gn gc xn yn a b _).mono ?_
          rintro e w4 ⟨rfl, hb4⟩
          go_wp2
          go_ret
          exact ⟨ret_bool (by rw [HE.out]), HBr.out.low.trans (hb4.mono HBr.out.low.size)⟩

set_option maxRecDepth 20000 in
set_option maxHeartbeats 2000000 in
theorem legalD_calls (m : Md) (sa : Option Addr) (sn sc : Nat) (ga : Option Addr) (gn gc : Nat) (xa : Option Addr) (xn xc : Nat) (ya : Option Addr) (yn yc : Nat) (xs ys : List Int) (i0 j0 : Int) (s : ByteArray) (w : World) (h : MdAt w m sa sn ga gn) (hx : IntsAt w xa xn xs) (hy : IntsAt w ya yn ys) (hs : s.size ≤ maxLen) :
    Calls Try.prog 13 #[.agg (mdCells m sa sn sc ga gn gc), .slice xa xn xc, .slice ya yn yc, .agg #[.int .i64 i0, .int .i64 j0, .string s]] w fun e w' => e = .returned (.tuple #[.bool (decide (refE m xs ys = 0) && allowsB m xs.length ys.length ⟨i0, j0, s.data.toList⟩), .int .i64 (refE m xs ys)]) ∧ Below w.heap.size w w' := by
  have hxl := hx.length
  have hyl := hy.length
  have HM : Hid (MdAt w m sa sn ga gn) := h
  have HX : Hid (IntsAt w xa xn xs) := hx
  have HY : Hid (IntsAt w ya yn ys) := hy
  have HSz : Hid (s.size ≤ maxLen) := hs
  clear h hx hy hs
  have HB0 : Hid (S2 w (mdCells m sa sn sc ga gn gc) #[.int .i64 i0, .int .i64 j0, .string s] ((w.alloc (.cells (mdCells m sa sn sc ga gn gc) 31)).alloc (.cells #[.int .i64 i0, .int .i64 j0, .string s] 33))) := S2.start w _ _
  rw [show mdCells m sa sn sc ga gn gc = #[.int .i64 m.letters, .slice sa sn sc, .slice ga gn gc, .int .i64 m.mode, .bool m.banded, .int .i64 m.lo, .int .i64 m.hi, .int .i64 m.front, .int .i64 m.back, .int .i64 m.least] from rfl]
  go_enter Try.func13, Try.ntmps13
  go_wp2_with fail
  refine (refused_calls m sa sn sc ga gn gc xa xn xc ya yn yc xs ys _ (HM.out.below HB0.out.low) (HX.out.below HB0.out.low) (HY.out.below HB0.out.low)).mono ?_
  rintro e w1 ⟨rfl, hb⟩
  have HB : Hid (S2 w (mdCells m sa sn sc ga gn gc) #[.int .i64 i0, .int .i64 j0, .string s] w1) := HB0.out.next hb
  clear hb HB0
  have c0 := cell_block HB.out.box 0 (.int .i64 m.letters) rfl; have c1 := cell_block HB.out.box 1 (.slice sa sn sc) rfl; have c2 := cell_block HB.out.box 2 (.slice ga gn gc) rfl; have c3 := cell_block HB.out.box 3 (.int .i64 m.mode) rfl; have c4 := cell_block HB.out.box 4 (.bool m.banded) rfl; have c5 := cell_block HB.out.box 5 (.int .i64 m.lo) rfl; have c6 := cell_block HB.out.box 6 (.int .i64 m.hi) rfl; have c7 := cell_block HB.out.box 7 (.int .i64 m.front) rfl; have c8 := cell_block HB.out.box 8 (.int .i64 m.back) rfl; have c9 := cell_block HB.out.box 9 (.int .i64 m.least) rfl; have cp0 := cell_block HB.out.p 0 (.int .i64 i0) rfl; have cp1 := cell_block HB.out.p 1 (.int .i64 j0) rfl; have cp2 := cell_block HB.out.p 2 (.string s) rfl
  obtain ⟨re, hre⟩ : ∃ re, refE m xs ys = re := ⟨_, rfl⟩
  rw [hre]
  by_cases h0 : re = 0
  · subst h0
    have HO := fdOk_of hre HM.out HX.out HY.out
    have HOk : Hid (FdOk m xs ys w sa sn ga gn xa xn ya yn) := HO
    clear HO
    go_wp2_with fail
    refine (legalR_calls m sa sn sc ga gn gc xa xn xc ya yn yc i0 j0 s _ (by unfold maxLen; have := HOk.out.sx; omega) (by unfold maxLen; have := HOk.out.sy; omega) (by have := HOk.out.sx; omega) (by have := HOk.out.sy; omega) HM.out.gaps.length HM.out.gaps.short HSz.out).mono ?_
    rintro e w3 ⟨rfl, hb3⟩
    have HB3 : Hid (Below w.heap.size w w3) := HB.out.low.trans (hb3.mono HB.out.low.size)
    clear hb3
    go_wp2
    go_ret2
    exact ⟨by rw [hre, hxl, hyl]; simp, HB3.out⟩
  · have h0b : (re != 0) = true := by simpa using h0
    go_wp2
    go_ret2
    exact ⟨by rw [hre]; simp [h0], HB.out.low⟩
end Go.Proofs.Ytegndeefddlccaa
