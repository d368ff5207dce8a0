/-
  What a path is worth: the walk of worth.
-/
import Derived.Test.YtegndeefddlccaaPwA
import Derived.Test.YtegndeefddlccaaPkC
import Derived.BigQuiet
namespace Go.Proofs.Ytegndeefddlccaa
open Go.RowKit

def subB (m : Md) (xs ys : List Int) (i j : Int) : Int := m.subst.getD (xs.getD (i - 1).toNat 0 * m.letters + ys.getD (j - 1).toNat 0).toNat 0
def wGo (m : Md) (xs ys : List Int) : Int → Int → Int → Int → List UInt8 → Int × Int
  | _, j, s, _, [] => (s, j)
  | i, j, s, g, c :: cs =>
    if c = 77 then wGo m xs ys (i + dnB c) (j + ovB c) (wrap64 (s + subB m xs ys (i + dnB c) (j + ovB c))) g cs
    else if cs.head? = some c then wGo m xs ys (i + dnB c) (j + ovB c) s (g + 1) cs
    else wGo m xs ys (i + dnB c) (j + ovB c) (wrap64 (s - leastB (g + 1) m.gaps)) 0 cs
def worthW (m : Md) (xs ys : List Int) (p : Pt) : Int :=
  let r := wGo m xs ys p.i p.j (if 0 < p.j then - m.front else 0) 0 p.cols
  if r.2 < ys.length then wrap64 (r.1 - m.back) else r.1
theorem wGo_cons {m : Md} {xs ys : List Int} {i j s g : Int} {cols : List UInt8} {k : Nat} {c : UInt8} (h : cols[k]? = some c) : wGo m xs ys i j s g (cols.drop k) =
    if c = 77 then wGo m xs ys (i + dnB c) (j + ovB c) (wrap64 (s + subB m xs ys (i + dnB c) (j + ovB c))) g (cols.drop (k + 1))
    else if cols[k + 1]? = some c then wGo m xs ys (i + dnB c) (j + ovB c) s (g + 1) (cols.drop (k + 1))
    else wGo m xs ys (i + dnB c) (j + ovB c) (wrap64 (s - leastB (g + 1) m.gaps)) 0 (cols.drop (k + 1)) := by
  have hk := (List.getElem?_eq_some_iff.1 h).1
  rw [List.drop_eq_getElem_cons hk, (List.getElem?_eq_some_iff.1 h).2, wGo, List.head?_drop]
/-- What worth leans on: a field that may be. -/
structure FdOk (m : Md) (xs ys : List Int) (w : World) (sa : Option Addr) (sn : Nat) (ga : Option Addr) (gn : Nat) (xa : Option Addr) (xn : Nat) (ya : Option Addr) (yn : Nat) : Prop where
  md : MdAt w m sa sn ga gn
  x : IntsAt w xa xn xs
  y : IntsAt w ya yn ys
  right : rightM m = true
  lx : lettersB m.letters xs = true
  ly : lettersB m.letters ys = true
  sx : xn ≤ 65536
  sy : yn ≤ 65536
theorem FdOk.below {m : Md} {xs ys : List Int} {w w' : World} {sa : Option Addr} {sn : Nat} {ga : Option Addr} {gn : Nat} {xa : Option Addr} {xn : Nat} {ya : Option Addr} {yn : Nat} (h : FdOk m xs ys w sa sn ga gn xa xn ya yn) (hb : Below w.heap.size w w') : FdOk m xs ys w' sa sn ga gn xa xn ya yn :=
  ⟨h.md.below hb, h.x.below hb, h.y.below hb, h.right, h.lx, h.ly, h.sx, h.sy⟩
theorem goB_kinds {m : Md} {c : UInt8} (h : goB m c = true) : c = 77 ∨ ((c = 68 ∨ c = 73) ∧ m.gaps ≠ []) := by
  unfold goB at h
  simp at h
  rcases h with h | ⟨h1, h2⟩
  · exact .inl h
  · exact .inr ⟨h1, h2⟩
/-- Where a letter over a letter lies. -/
theorem sub_at {m : Md} {xs ys : List Int} {w : World} {sa : Option Addr} {sn : Nat} {ga : Option Addr} {gn : Nat} {xa : Option Addr} {xn : Nat} {ya : Option Addr} {yn : Nat} (h : FdOk m xs ys w sa sn ga gn xa xn ya yn) {a b : Nat} (ha : a < xn) (hb : b < yn) :
    ∃ (bx ox by_ oy bs_ os : Nat) (xv yv pv : Int) (ix : Nat), xa = some ⟨bx, ox, none⟩ ∧ ya = some ⟨by_, oy, none⟩ ∧ sa = some ⟨bs_, os, none⟩ ∧ w.cell? ⟨bx, ox + a, none⟩ = some (.int .i64 xv) ∧ w.cell? ⟨by_, oy + b, none⟩ = some (.int .i64 yv) ∧ xv * m.letters = pv ∧ (0 ≤ xv ∧ xv < 20) ∧ (0 ≤ pv ∧ pv ≤ 400) ∧ (0 ≤ yv ∧ yv < 20) ∧ pv + yv = (ix : Int) ∧ ix < sn ∧
      w.cell? ⟨bs_, os + ix, none⟩ = some (.int .i64 (subB m xs ys ((a : Int) + 1) ((b : Int) + 1))) := by
  have hr := rightM_out h.right
  have hl2 := hr.letters2
  have hl20 := hr.letters20
  obtain ⟨bx, ox, hxa, hcx⟩ := h.x.cells (by omega)
  obtain ⟨by_, oy, hya, hcy⟩ := h.y.cells (by omega)
  have hxv := lettersB_get h.lx a (by rw [h.x.length]; exact ha)
  have hyv := lettersB_get h.ly b (by rw [h.y.length]; exact hb)
  have hsub : subB m xs ys ((a : Int) + 1) ((b : Int) + 1) = m.subst.getD (xs.getD a 0 * m.letters + ys.getD b 0).toNat 0 := by
    unfold subB
    rw [show ((a : Int) + 1 - 1).toNat = a by omega, show ((b : Int) + 1 - 1).toNat = b by omega]
  rw [hsub]
  have hcxa := hcx a ha
  have hcyb := hcy b hb
  generalize xs.getD a 0 = xv at *
  generalize ys.getD b 0 = yv at *
  have h1 : 0 ≤ xv * m.letters := Int.mul_nonneg hxv.1 (by omega)
  have h2 : xv * m.letters ≤ (m.letters - 1) * m.letters := Int.mul_le_mul_of_nonneg_right (by omega) (by omega)
  have h3 : (m.letters - 1) * m.letters = m.letters * m.letters - m.letters := by rw [Int.sub_mul]; omega
  have h4 : m.letters * m.letters ≤ 20 * 20 := Int.mul_le_mul hl20 hl20 (by omega) (by omega)
  have hcount := hr.count
  have hsl := h.md.subst.length
  obtain ⟨ix, hix⟩ := Int.eq_ofNat_of_zero_le (show 0 ≤ xv * m.letters + yv by omega)
  have hlt : ix < sn := by omega
  obtain ⟨bs_, os, hsa, hcs⟩ := h.md.subst.cells (by omega)
  refine ⟨bx, ox, by_, oy, bs_, os, xv, yv, xv * m.letters, ix, hxa, hya, hsa, hcxa, hcyb, rfl, by omega, by omega, by omega, hix, hlt, ?_⟩
  rw [hix, Int.toNat_natCast]
  exact hcs ix hlt

set_option maxRecDepth 20000 in
set_option maxHeartbeats 4000000 in
theorem worth_calls (m : Md) (sa : Option Addr) (sn sc : Nat) (ga : Option Addr) (gn gc : Nat) (xa : Option Addr) (xn xc : Nat) (ya : Option Addr) (yn yc : Nat) (xs ys : List Int) (i0 j0 : Int) (s : ByteArray) (w : World) (hF : FdOk m xs ys w sa sn ga gn xa xn ya yn) (hs : s.size ≤ maxLen) (hal : allowsB m xn yn ⟨i0, j0, s.data.toList⟩ = true) :
    Calls Try.prog 30 #[.agg (fdCells m sa sn sc ga gn gc xa xn xc ya yn yc), .agg #[.int .i64 i0, .int .i64 j0, .string s]] w fun e w' => e = .returned (.int .i64 (worthW m xs ys ⟨i0, j0, s.data.toList⟩)) ∧ Below w.heap.size w w' := by
  have hhs := hal
  unfold allowsB at hhs
  simp only [Bool.and_eq_true] at hhs
  obtain ⟨⟨hh0, _⟩, hst0⟩ := hhs
  have HB0 : Hid (G2 w (fdCells m sa sn sc ga gn gc xa xn xc ya yn yc) #[.int .i64 i0, .int .i64 j0, .string s] ((w.alloc (.cells (fdCells m sa sn sc ga gn gc xa xn xc ya yn yc) 55)).alloc (.cells #[.int .i64 i0, .int .i64 j0, .string s] 33))) := G2.start w _ _
  have HF : Hid (FdOk m xs ys w sa sn ga gn xa xn ya yn) := hF
  have hsx := hF.sx
  have hsy := hF.sy
  have hxl := hF.x.length
  have hyl := hF.y.length
  have hrt := rightM_out hF.right
  have hfr := hrt.front
  have hbk := hrt.back
  have hgl := hF.md.gaps.short
  have HGB : Hid (gapsB m.gaps = true) := hrt.gaps
  have hc0 := hasB_cells hh0
  obtain ⟨f0, hf0⟩ : ∃ f0 : Int, (if 0 < j0 then - m.front else 0) = f0 := ⟨_, rfl⟩
  obtain ⟨RS, RJ, hRW⟩ : ∃ RS RJ, wGo m xs ys i0 j0 f0 0 (s.data.toList.drop 0) = (RS, RJ) := ⟨_, _, rfl⟩
  have HW : Hid (worthW m xs ys ⟨i0, j0, s.data.toList⟩ = if RJ < (yn : Int) then wrap64 (RS - m.back) else RS) := by
    have : worthW m xs ys ⟨i0, j0, s.data.toList⟩ = _ := rfl
    show _ = _
    rw [worthW]
    simp only [hf0, hyl]
    rw [List.drop_zero] at hRW
    rw [hRW]
  have HR0 : Hid (hasB m xn yn i0 j0 = true ∧ stepsB m xn yn i0 j0 (s.data.toList.drop 0) = true ∧ wGo m xs ys i0 j0 f0 0 (s.data.toList.drop 0) = (RS, RJ)) := ⟨hh0, by simpa using hst0, hRW⟩
  clear hal hh0 hst0 hF hrt hRW
  unfold maxLen at hs hgl
  obtain ⟨c0, c1, c2, c3, c4, c5, c6, c7, c8, c9, c10, c11⟩ := fdC_of HB0.out.f; have cp0 := cell_block HB0.out.p 0 (.int .i64 i0) rfl; have cp1 := cell_block HB0.out.p 1 (.int .i64 j0) rfl; have cp2 := cell_block HB0.out.p 2 (.string s) rfl
  rw [show fdCells m sa sn sc ga gn gc xa xn xc ya yn yc = #[.int .i64 m.letters, .slice sa sn sc, .slice ga gn gc, .int .i64 m.mode, .bool m.banded, .int .i64 m.lo, .int .i64 m.hi, .int .i64 m.front, .int .i64 m.back, .int .i64 m.least, .slice xa xn xc, .slice ya yn yc] from rfl]
  go_enter Try.func30, Try.ntmps30
  go_wp2
  go_quiet (fail)
  have HB1 : Hid (G2 w (fdCells m sa sn sc ga gn gc xa xn xc ya yn yc) #[.int .i64 i0, .int .i64 j0, .string s] (((w.alloc (.cells #[.int .i64 m.letters, .slice sa sn sc, .slice ga gn gc, .int .i64 m.mode, .bool m.banded, .int .i64 m.lo, .int .i64 m.hi, .int .i64 m.front, .int .i64 m.back, .int .i64 m.least, .slice xa xn xc, .slice ya yn yc] 55)).alloc (.cells #[.int .i64 i0, .int .i64 j0, .string s] 33)).drewN nq)) := HB0.out.drewN nq
  generalize ((w.alloc (.cells #[.int .i64 m.letters, .slice sa sn sc, .slice ga gn gc, .int .i64 m.mode, .bool m.banded, .int .i64 m.lo, .int .i64 m.hi, .int .i64 m.front, .int .i64 m.back, .int .i64 m.least, .slice xa xn xc, .slice ya yn yc] 55)).alloc (.cells #[.int .i64 i0, .int .i64 j0, .string s] 33)).drewN nq = w1 at HB1 ⊢
  clear c0 c1 c2 c3 c4 c5 c6 c7 c8 c9 c10 c11 cp0 cp1 cp2
  clear HB0
  obtain ⟨c0, c1, c2, c3, c4, c5, c6, c7, c8, c9, c10, c11⟩ := fdC_of HB1.out.f; have cp0 := cell_block HB1.out.p 0 (.int .i64 i0) rfl; have cp1 := cell_block HB1.out.p 1 (.int .i64 j0) rfl; have cp2 := cell_block HB1.out.p 2 (.string s) rfl
  by_cases hj0 : 0 < j0
  · have hf0' : f0 = - m.front := by rw [← hf0, if_pos hj0]
    subst hf0'
    clear hf0
    go_wp2
    go_loopw [5, 6, 7, 8, 27] (fun i j zc g k wr => ∃ (q : Nat) (a b t h : Int), q ≤ s.size ∧ k = .int .i64 q ∧ i = .int .i64 a ∧ j = .int .i64 b ∧ zc = .int .i64 t ∧ g = .int .i64 h ∧ (0 ≤ h ∧ h ≤ q) ∧ (hasB m xn yn a b = true ∧ stepsB m xn yn a b (s.data.toList.drop q) = true ∧ wGo m xs ys a b t h (s.data.toList.drop q) = (RS, RJ)) ∧ G2 w (fdCells m sa sn sc ga gn gc xa xn xc ya yn yc) #[.int .i64 i0, .int .i64 j0, .string s] wr) (fun _ _ _ _ k _ => s.size - (intOf k).toNat)
    case atStart => exact ⟨0, i0, j0, _, 0, Nat.zero_le _, rfl, rfl, rfl, rfl, rfl, by omega, HR0.out, HB1.out⟩
    case round =>
      clear c0 c1 c2 c3 c4 c5 c6 c7 c8 c9 c10 c11 cp0 cp1 cp2
      obtain ⟨q, a, b, t, h, hq, rfl, rfl, rfl, rfl, rfl, hh, hr, hB⟩ := hrel
      obtain ⟨hab, hr⟩ := hr
      have hc := hasB_cells hab
      have HR2 : Hid (stepsB m xn yn a b (s.data.toList.drop q) = true ∧ wGo m xs ys a b t h (s.data.toList.drop q) = (RS, RJ)) := hr
      have HBr : Hid (G2 w (fdCells m sa sn sc ga gn gc xa xn xc ya yn yc) #[.int .i64 i0, .int .i64 j0, .string s] wr) := hB
      clear hr hB hab HR0 HB1
      obtain ⟨c0, c1, c2, c3, c4, c5, c6, c7, c8, c9, c10, c11⟩ := fdC_of HBr.out.f; have cp0 := cell_block HBr.out.p 0 (.int .i64 i0) rfl; have cp1 := cell_block HBr.out.p 1 (.int .i64 j0) rfl; have cp2 := cell_block HBr.out.p 2 (.string s) rfl
      by_cases hql : q < s.size
      · obtain ⟨c, hcq⟩ : ∃ c, s[q] = c := ⟨_, rfl⟩
        have HG : Hid (s.data.toList[q]? = some c) := by rw [← hcq]; exact ba_list s q hql
        have hst := HR2.out.1
        rw [stepsB_cons HG.out] at hst
        simp only [Bool.and_eq_true] at hst
        obtain ⟨⟨hgo, hhas⟩, hst2⟩ := hst
        have hwg := HR2.out.2
        rw [wGo_cons HG.out] at hwg
        have hc2 := hasB_cells hhas
        have HN : Hid (hasB m xn yn (a + dnB c) (b + ovB c) = true ∧ stepsB m xn yn (a + dnB c) (b + ovB c) (s.data.toList.drop (q + 1)) = true) := ⟨hhas, hst2⟩
        clear hst2 hhas HR2
        have HQ : Hid (s[q] = c) := hcq
        clear hcq
        rcases goB_kinds hgo with rfl | ⟨hkd, hgne⟩
        · rw [if_pos rfl] at hwg
          clear hgo
          have hd1 : dnB 77 = 1 := rfl
          have ho1 : ovB 77 = 1 := rfl
          rw [hd1, ho1] at hwg HN hc2
          obtain ⟨an, rfl⟩ := Int.eq_ofNat_of_zero_le hc.1
          obtain ⟨bn, rfl⟩ := Int.eq_ofNat_of_zero_le hc.2.2.1
          have CS : Hid (∀ W, Calls Try.prog 47 #[.int .u8 (77 : UInt8).toNat] W fun e w' => e = .returned (.tuple #[.int .i64 1, .int .i64 1]) ∧ W = w') := fun W => step_calls 77 W
          obtain ⟨bx, ox, by_, oy, bs_, os, xv, yv, pv, ix, rfl, rfl, rfl, cx, cy, hpv, hxv, hpr, hyv, hix, hixl, csb⟩ := sub_at (HF.out.below HBr.out.low) (a := an) (b := bn) (by omega) (by omega)
          obtain ⟨sv, hsv⟩ : ∃ sv, subB m xs ys ((an : Int) + 1) ((bn : Int) + 1) = sv := ⟨_, rfl⟩
          rw [hsv] at csb hwg
          have HW2 : Hid (wGo m xs ys ((an : Int) + 1) ((bn : Int) + 1) (wrap64 (t + sv)) h (s.data.toList.drop (q + 1)) = (RS, RJ)) := hwg
          clear hwg hsv
          go_wp2_with fail
          rw [HQ.out]
          refine (CS.out _).mono ?_
          rintro e w3 ⟨rfl, rfl⟩
          go_wp2
          go_quiet (fail)
          go_wp2
          go_roundw
          case rel =>
            exact ⟨q + 1, (an : Int) + 1, (bn : Int) + 1, wrap64 (t + sv), h, by omega, by go_num, rfl, rfl, rfl, rfl, by omega, ⟨HN.out.1, HN.out.2, HW2.out⟩, HBr.out.drewN _⟩
          case measure => simp [intOf]; omega
        · have h77 : c ≠ 77 := by rcases hkd with rfl | rfl <;> decide
          rw [if_neg h77] at hwg
          have h77b := u8_77 h77
          have hdn := dn_rng c
          have hov := ov_rng c
          clear hgo hkd
          have CS : Hid (∀ W, Calls Try.prog 47 #[.int .u8 c.toNat] W fun e w' => e = .returned (.tuple #[.int .i64 (dnB c), .int .i64 (ovB c)]) ∧ W = w') := fun W => step_calls c W
          have CL : Hid (∀ W, Below w.heap.size w W → Calls Try.prog 24 #[.int .i64 (h + 1), .slice ga gn gc] W fun e w' => e = .returned (.int .i64 (leastB (h + 1) m.gaps)) ∧ Below W.heap.size W w') := fun W hb => leastLine_calls (h + 1) ga gn gc m.gaps W ((HF.out.below hb).md.gaps) (by omega) HGB.out
          by_cases hlast : q + 1 = s.size
          · have hl1 : ((q : Int) + 1 == (s.size : Int)) = true := by simp; omega
            have hnone : s.data.toList[q + 1]? = none := List.getElem?_eq_none (by rw [ba_size]; omega)
            rw [hnone, if_neg (by simp)] at hwg
            have HW2 : Hid (wGo m xs ys (a + dnB c) (b + ovB c) (wrap64 (t - leastB (h + 1) m.gaps)) 0 (s.data.toList.drop (q + 1)) = (RS, RJ)) := hwg
            clear hwg hnone HG
            go_wp2_with fail
            rw [HQ.out]
            refine (CS.out _).mono ?_
            rintro e w3 ⟨rfl, rfl⟩
            go_wp2_with fail
            refine (CL.out _ HBr.out.low).mono ?_
            rintro e w4 ⟨rfl, hb4⟩
            have HB4 : Hid (G2 w (fdCells m sa sn sc ga gn gc xa xn xc ya yn yc) #[.int .i64 i0, .int .i64 j0, .string s] w4) := HBr.out.next hb4
            clear hb4 HBr
            go_wp2
            go_roundw
            case rel =>
              exact ⟨q + 1, a + dnB c, b + ovB c, wrap64 (t - leastB (h + 1) m.gaps), 0, by omega, by go_num, rfl, rfl, rfl, rfl, by omega, ⟨HN.out.1, HN.out.2, HW2.out⟩, HB4.out⟩
            case measure => simp [intOf]; omega
          · have hl1 : ((q : Int) + 1 == (s.size : Int)) = false := by simp; omega
            have hq1 : q + 1 < s.size := by omega
            obtain ⟨c2, hcq2⟩ : ∃ c2, s[q + 1] = c2 := ⟨_, rfl⟩
            have hg2 : s.data.toList[q + 1]? = some c2 := by rw [← hcq2]; exact ba_list s (q + 1) hq1
            rw [hg2] at hwg
            by_cases hsame : c2 = c
            · rw [if_pos (by rw [hsame])] at hwg
              have hne : (((s[q + 1]).toNat : Int) != (c.toNat : Int)) = false := by rw [hcq2, hsame]; simp
              have HW2 : Hid (wGo m xs ys (a + dnB c) (b + ovB c) t (h + 1) (s.data.toList.drop (q + 1)) = (RS, RJ)) := hwg
              clear hwg hg2 HG hcq2 hsame
              go_wp2_with fail
              rw [HQ.out]
              refine (CS.out _).mono ?_
              rintro e w3 ⟨rfl, rfl⟩
              go_wp2
              go_roundw
              case rel =>
                exact ⟨q + 1, a + dnB c, b + ovB c, t, h + 1, by omega, by go_num, rfl, rfl, rfl, rfl, by omega, ⟨HN.out.1, HN.out.2, HW2.out⟩, HBr.out⟩
              case measure => simp [intOf]; omega
            · rw [if_neg (by simpa using hsame)] at hwg
              have hne : (((s[q + 1]).toNat : Int) != (c.toNat : Int)) = true := by rw [hcq2]; simp only [bne, u8_int]; simpa using hsame
              have HW2 : Hid (wGo m xs ys (a + dnB c) (b + ovB c) (wrap64 (t - leastB (h + 1) m.gaps)) 0 (s.data.toList.drop (q + 1)) = (RS, RJ)) := hwg
              clear hwg hg2 HG hcq2 hsame
              go_wp2_with fail
              rw [HQ.out]
              refine (CS.out _).mono ?_
              rintro e w3 ⟨rfl, rfl⟩
              go_wp2_with fail
              refine (CL.out _ HBr.out.low).mono ?_
              rintro e w4 ⟨rfl, hb4⟩
              have HB4 : Hid (G2 w (fdCells m sa sn sc ga gn gc xa xn xc ya yn yc) #[.int .i64 i0, .int .i64 j0, .string s] w4) := HBr.out.next hb4
              clear hb4 HBr
              go_wp2
              go_roundw
              case rel =>
                exact ⟨q + 1, a + dnB c, b + ovB c, wrap64 (t - leastB (h + 1) m.gaps), 0, by omega, by go_num, rfl, rfl, rfl, rfl, by omega, ⟨HN.out.1, HN.out.2, HW2.out⟩, HB4.out⟩
              case measure => simp [intOf]; omega
      · have hqe : s.data.toList.drop q = [] := List.drop_eq_nil_of_le (by rw [ba_size]; omega)
        have hfin := HR2.out.2
        rw [hqe] at hfin
        simp only [wGo, Prod.mk.injEq] at hfin
        obtain ⟨rfl, rfl⟩ := hfin
        clear HR2
        by_cases hbj : b < (yn : Int)
        · have HE := HW.out
          rw [if_pos hbj] at HE
          have HE2 : Hid (worthW m xs ys ⟨i0, j0, s.data.toList⟩ = wrap64 (t - m.back)) := HE
          clear HE HW
          go_wp2
          go_ret
          exact ⟨ret_int (by rw [HE2.out]), HBr.out.low⟩
        · have HE := HW.out
          rw [if_neg hbj] at HE
          have HE2 : Hid (worthW m xs ys ⟨i0, j0, s.data.toList⟩ = t) := HE
          clear HE HW
          go_wp2
          go_ret
          exact ⟨ret_int (by rw [HE2.out]), HBr.out.low⟩
  · have hf0' : f0 = 0 := by rw [← hf0, if_neg hj0]
    subst hf0'
    clear hf0
    go_wp2
    go_loopw [5, 6, 7, 8, 27] (fun i j zc g k wr => ∃ (q : Nat) (a b t h : Int), q ≤ s.size ∧ k = .int .i64 q ∧ i = .int .i64 a ∧ j = .int .i64 b ∧ zc = .int .i64 t ∧ g = .int .i64 h ∧ (0 ≤ h ∧ h ≤ q) ∧ (hasB m xn yn a b = true ∧ stepsB m xn yn a b (s.data.toList.drop q) = true ∧ wGo m xs ys a b t h (s.data.toList.drop q) = (RS, RJ)) ∧ G2 w (fdCells m sa sn sc ga gn gc xa xn xc ya yn yc) #[.int .i64 i0, .int .i64 j0, .string s] wr) (fun _ _ _ _ k _ => s.size - (intOf k).toNat)
    case atStart => exact ⟨0, i0, j0, _, 0, Nat.zero_le _, rfl, rfl, rfl, rfl, rfl, by omega, HR0.out, HB1.out⟩
    case round =>
      clear c0 c1 c2 c3 c4 c5 c6 c7 c8 c9 c10 c11 cp0 cp1 cp2
      obtain ⟨q, a, b, t, h, hq, rfl, rfl, rfl, rfl, rfl, hh, hr, hB⟩ := hrel
      obtain ⟨hab, hr⟩ := hr
      have hc := hasB_cells hab
      have HR2 : Hid (stepsB m xn yn a b (s.data.toList.drop q) = true ∧ wGo m xs ys a b t h (s.data.toList.drop q) = (RS, RJ)) := hr
      have HBr : Hid (G2 w (fdCells m sa sn sc ga gn gc xa xn xc ya yn yc) #[.int .i64 i0, .int .i64 j0, .string s] wr) := hB
      clear hr hB hab HR0 HB1
      obtain ⟨c0, c1, c2, c3, c4, c5, c6, c7, c8, c9, c10, c11⟩ := fdC_of HBr.out.f; have cp0 := cell_block HBr.out.p 0 (.int .i64 i0) rfl; have cp1 := cell_block HBr.out.p 1 (.int .i64 j0) rfl; have cp2 := cell_block HBr.out.p 2 (.string s) rfl
      by_cases hql : q < s.size
      · obtain ⟨c, hcq⟩ : ∃ c, s[q] = c := ⟨_, rfl⟩
        have HG : Hid (s.data.toList[q]? = some c) := by rw [← hcq]; exact ba_list s q hql
        have hst := HR2.out.1
        rw [stepsB_cons HG.out] at hst
        simp only [Bool.and_eq_true] at hst
        obtain ⟨⟨hgo, hhas⟩, hst2⟩ := hst
        have hwg := HR2.out.2
        rw [wGo_cons HG.out] at hwg
        have hc2 := hasB_cells hhas
        have HN : Hid (hasB m xn yn (a + dnB c) (b + ovB c) = true ∧ stepsB m xn yn (a + dnB c) (b + ovB c) (s.data.toList.drop (q + 1)) = true) := ⟨hhas, hst2⟩
        clear hst2 hhas HR2
        have HQ : Hid (s[q] = c) := hcq
        clear hcq
        rcases goB_kinds hgo with rfl | ⟨hkd, hgne⟩
        · rw [if_pos rfl] at hwg
          clear hgo
          have hd1 : dnB 77 = 1 := rfl
          have ho1 : ovB 77 = 1 := rfl
          rw [hd1, ho1] at hwg HN hc2
          obtain ⟨an, rfl⟩ := Int.eq_ofNat_of_zero_le hc.1
          obtain ⟨bn, rfl⟩ := Int.eq_ofNat_of_zero_le hc.2.2.1
          have CS : Hid (∀ W, Calls Try.prog 47 #[.int .u8 (77 : UInt8).toNat] W fun e w' => e = .returned (.tuple #[.int .i64 1, .int .i64 1]) ∧ W = w') := fun W => step_calls 77 W
          obtain ⟨bx, ox, by_, oy, bs_, os, xv, yv, pv, ix, rfl, rfl, rfl, cx, cy, hpv, hxv, hpr, hyv, hix, hixl, csb⟩ := sub_at (HF.out.below HBr.out.low) (a := an) (b := bn) (by omega) (by omega)
          obtain ⟨sv, hsv⟩ : ∃ sv, subB m xs ys ((an : Int) + 1) ((bn : Int) + 1) = sv := ⟨_, rfl⟩
          rw [hsv] at csb hwg
          have HW2 : Hid (wGo m xs ys ((an : Int) + 1) ((bn : Int) + 1) (wrap64 (t + sv)) h (s.data.toList.drop (q + 1)) = (RS, RJ)) := hwg
          clear hwg hsv
          go_wp2_with fail
          rw [HQ.out]
          refine (CS.out _).mono ?_
          rintro e w3 ⟨rfl, rfl⟩
          go_wp2
          go_quiet (fail)
          go_wp2
          go_roundw
          case rel =>
            exact ⟨q + 1, (an : Int) + 1, (bn : Int) + 1, wrap64 (t + sv), h, by omega, by go_num, rfl, rfl, rfl, rfl, by omega, ⟨HN.out.1, HN.out.2, HW2.out⟩, HBr.out.drewN _⟩
          case measure => simp [intOf]; omega
        · have h77 : c ≠ 77 := by rcases hkd with rfl | rfl <;> decide
          rw [if_neg h77] at hwg
          have h77b := u8_77 h77
          have hdn := dn_rng c
          have hov := ov_rng c
          clear hgo hkd
          have CS : Hid (∀ W, Calls Try.prog 47 #[.int .u8 c.toNat] W fun e w' => e = .returned (.tuple #[.int .i64 (dnB c), .int .i64 (ovB c)]) ∧ W = w') := fun W => step_calls c W
          have CL : Hid (∀ W, Below w.heap.size w W → Calls Try.prog 24 #[.int .i64 (h + 1), .slice ga gn gc] W fun e w' => e = .returned (.int .i64 (leastB (h + 1) m.gaps)) ∧ Below W.heap.size W w') := fun W hb => leastLine_calls (h + 1) ga gn gc m.gaps W ((HF.out.below hb).md.gaps) (by omega) HGB.out
          by_cases hlast : q + 1 = s.size
          · have hl1 : ((q : Int) + 1 == (s.size : Int)) = true := by simp; omega
            have hnone : s.data.toList[q + 1]? = none := List.getElem?_eq_none (by rw [ba_size]; omega)
            rw [hnone, if_neg (by simp)] at hwg
            have HW2 : Hid (wGo m xs ys (a + dnB c) (b + ovB c) (wrap64 (t - leastB (h + 1) m.gaps)) 0 (s.data.toList.drop (q + 1)) = (RS, RJ)) := hwg
            clear hwg hnone HG
            go_wp2_with fail
            rw [HQ.out]
            refine (CS.out _).mono ?_
            rintro e w3 ⟨rfl, rfl⟩
            go_wp2_with fail
            refine (CL.out _ HBr.out.low).mono ?_
            rintro e w4 ⟨rfl, hb4⟩
            have HB4 : Hid (G2 w (fdCells m sa sn sc ga gn gc xa xn xc ya yn yc) #[.int .i64 i0, .int .i64 j0, .string s] w4) := HBr.out.next hb4
            clear hb4 HBr
            go_wp2
            go_roundw
            case rel =>
              exact ⟨q + 1, a + dnB c, b + ovB c, wrap64 (t - leastB (h + 1) m.gaps), 0, by omega, by go_num, rfl, rfl, rfl, rfl, by omega, ⟨HN.out.1, HN.out.2, HW2.out⟩, HB4.out⟩
            case measure => simp [intOf]; omega
          · have hl1 : ((q : Int) + 1 == (s.size : Int)) = false := by simp; omega
            have hq1 : q + 1 < s.size := by omega
            obtain ⟨c2, hcq2⟩ : ∃ c2, s[q + 1] = c2 := ⟨_, rfl⟩
            have hg2 : s.data.toList[q + 1]? = some c2 := by rw [← hcq2]; exact ba_list s (q + 1) hq1
            rw [hg2] at hwg
            by_cases hsame : c2 = c
            · rw [if_pos (by rw [hsame])] at hwg
              have hne : (((s[q + 1]).toNat : Int) != (c.toNat : Int)) = false := by rw [hcq2, hsame]; simp
              have HW2 : Hid (wGo m xs ys (a + dnB c) (b + ovB c) t (h + 1) (s.data.toList.drop (q + 1)) = (RS, RJ)) := hwg
              clear hwg hg2 HG hcq2 hsame
              go_wp2_with fail
              rw [HQ.out]
              refine (CS.out _).mono ?_
              rintro e w3 ⟨rfl, rfl⟩
              go_wp2
              go_roundw
              case rel =>
                exact ⟨q + 1, a + dnB c, b + ovB c, t, h + 1, by omega, by go_num, rfl, rfl, rfl, rfl, by omega, ⟨HN.out.1, HN.out.2, HW2.out⟩, HBr.out⟩
              case measure => simp [intOf]; omega
            · rw [if_neg (by simpa using hsame)] at hwg
              have hne : (((s[q + 1]).toNat : Int) != (c.toNat : Int)) = true := by rw [hcq2]; simp only [bne, u8_int]; simpa using hsame
              have HW2 : Hid (wGo m xs ys (a + dnB c) (b + ovB c) (wrap64 (t - leastB (h + 1) m.gaps)) 0 (s.data.toList.drop (q + 1)) = (RS, RJ)) := hwg
              clear hwg hg2 HG hcq2 hsame
              go_wp2_with fail
              rw [HQ.out]
              refine (CS.out _).mono ?_
              rintro e w3 ⟨rfl, rfl⟩
              go_wp2_with fail
              refine (CL.out _ HBr.out.low).mono ?_
              rintro e w4 ⟨rfl, hb4⟩
              have HB4 : Hid (G2 w (fdCells m sa sn sc ga gn gc xa xn xc ya yn yc) #[.int .i64 i0, .int .i64 j0, .string s] w4) := HBr.out.next hb4
              clear hb4 HBr
              go_wp2
              go_roundw
              case rel =>
                exact ⟨q + 1, a + dnB c, b + ovB c, wrap64 (t - leastB (h + 1) m.gaps), 0, by omega, by go_num, rfl, rfl, rfl, rfl, by omega, ⟨HN.out.1, HN.out.2, HW2.out⟩, HB4.out⟩
              case measure => simp [intOf]; omega
      · have hqe : s.data.toList.drop q = [] := List.drop_eq_nil_of_le (by rw [ba_size]; omega)
        have hfin := HR2.out.2
        rw [hqe] at hfin
        simp only [wGo, Prod.mk.injEq] at hfin
        obtain ⟨rfl, rfl⟩ := hfin
        clear HR2
        by_cases hbj : b < (yn : Int)
        · have HE := HW.out
          rw [if_pos hbj] at HE
          have HE2 : Hid (worthW m xs ys ⟨i0, j0, s.data.toList⟩ = wrap64 (t - m.back)) := HE
          clear HE HW
          go_wp2
          go_ret
          exact ⟨ret_int (by rw [HE2.out]), HBr.out.low⟩
        · have HE := HW.out
          rw [if_neg hbj] at HE
          have HE2 : Hid (worthW m xs ys ⟨i0, j0, s.data.toList⟩ = t) := HE
          clear HE HW
          go_wp2
          go_ret
          exact ⟨ret_int (by rw [HE2.out]), HBr.out.low⟩

end Go.Proofs.Ytegndeefddlccaa
