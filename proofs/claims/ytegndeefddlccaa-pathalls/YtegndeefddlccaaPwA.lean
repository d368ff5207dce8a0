/-
  Which paths may be; what a path is worth: in plain lists; the walk of allows.
-/
import Derived.Test.YtegndeefddlccaaPiA
import Derived.Test.YtegndeefddlccaaPkB
import Derived.BigQuiet
namespace Go.Proofs.Ytegndeefddlccaa
open Go.RowKit

def stepsB (m : Md) (nx ny : Nat) : Int → Int → List UInt8 → Bool
  | i, j, [] => endB m nx ny i j
  | i, j, c :: cs => (goB m c && hasB m nx ny (i + dnB c) (j + ovB c)) && stepsB m nx ny (i + dnB c) (j + ovB c) cs
def allowsB (m : Md) (nx ny : Nat) (p : Pt) : Bool := (hasB m nx ny p.i p.j && beginB m p.i p.j) && stepsB m nx ny p.i p.j p.cols
theorem stepsB_cons {m : Md} {nx ny : Nat} {i j : Int} {cols : List UInt8} {k : Nat} {c : UInt8} (h : cols[k]? = some c) : stepsB m nx ny i j (cols.drop k) = ((goB m c && hasB m nx ny (i + dnB c) (j + ovB c)) && stepsB m nx ny (i + dnB c) (j + ovB c) (cols.drop (k + 1))) := by
  have hk := (List.getElem?_eq_some_iff.1 h).1
  rw [List.drop_eq_getElem_cons hk, (List.getElem?_eq_some_iff.1 h).2, stepsB]
theorem dn_rng (c : UInt8) : 0 ≤ dnB c ∧ dnB c ≤ 1 := by unfold dnB; split <;> omega
theorem ov_rng (c : UInt8) : 0 ≤ ovB c ∧ ovB c ≤ 1 := by unfold ovB; split <;> omega
theorem ba_size (s : ByteArray) : s.data.toList.length = s.size := by rw [Array.length_toList]; rfl
theorem ba_list (s : ByteArray) (k : Nat) (h : k < s.size) : s.data.toList[k]? = some s[k] := by
  have hk : k < s.data.toList.length := by rw [ba_size]; exact h
  rw [List.getElem?_eq_getElem hk]
  rfl
/-- Two boxes: a field's, and a path's. -/
structure G2 (w : World) (fd pc : Array Value) (wr : World) : Prop where
  low : Below w.heap.size w wr
  f : wr.heap[w.heap.size]? = some (.cells fd 55 (0, 0))
  p : wr.heap[w.heap.size + 1]? = some (.cells pc 33 (0, 0))
theorem G2.start (w : World) (fd pc : Array Value) : G2 w fd pc ((w.alloc (.cells fd 55)).alloc (.cells pc 33)) :=
  ⟨((Below.refl _ w).alloc (Nat.le_refl _) _).alloc (by simp) _, hp_old (hp_at rfl), hp_at (by simp)⟩
theorem G2.next {w : World} {fd pc : Array Value} {wr w2 : World} (h : G2 w fd pc wr) (hb : Below wr.heap.size wr w2) : G2 w fd pc w2 :=
  ⟨h.low.trans (hb.mono h.low.size), (Fr.of_below (O := fun _ => False) hb).heap h.f (fun h => h), (Fr.of_below (O := fun _ => False) hb).heap h.p (fun h => h)⟩
theorem G2.drewN {w : World} {fd pc : Array Value} {wr : World} (h : G2 w fd pc wr) (n : Nat) : G2 w fd pc (wr.drewN n) := ⟨⟨h.low.os, h.low.tape, h.low.output, h.low.size, h.low.block⟩, h.f, h.p⟩

set_option maxRecDepth 20000 in
set_option maxHeartbeats 2000000 in
theorem allows_calls (m : Md) (sa : Option Addr) (sn sc : Nat) (ga : Option Addr) (gn gc : Nat) (xa : Option Addr) (xn xc : Nat) (ya : Option Addr) (yn yc : Nat) (i0 j0 : Int) (s : ByteArray) (w : World) (hx : xn ≤ maxLen) (hy : yn ≤ maxLen) (hx2 : xn ≤ 1000000) (hy2 : yn ≤ 1000000) (hg : m.gaps.length = gn) (hs : s.size ≤ maxLen) :
    Calls Try.prog 27 #[.agg (fdCells m sa sn sc ga gn gc xa xn xc ya yn yc), .agg #[.int .i64 i0, .int .i64 j0, .string s]] w fun e w' => e = .returned (.bool (allowsB m xn yn ⟨i0, j0, s.data.toList⟩)) ∧ Below w.heap.size w w' := by
  have HB0 : Hid (G2 w (fdCells m sa sn sc ga gn gc xa xn xc ya yn yc) #[.int .i64 i0, .int .i64 j0, .string s] ((w.alloc (.cells (fdCells m sa sn sc ga gn gc xa xn xc ya yn yc) 55)).alloc (.cells #[.int .i64 i0, .int .i64 j0, .string s] 33))) := G2.start w _ _
  have HX : Hid (xn ≤ maxLen ∧ yn ≤ maxLen) := ⟨hx, hy⟩
  have HAl : Hid (allowsB m xn yn ⟨i0, j0, s.data.toList⟩ = ((hasB m xn yn i0 j0 && beginB m i0 j0) && stepsB m xn yn i0 j0 (s.data.toList.drop 0))) := by show _ = _; simp [allowsB]
  generalize allowsB m xn yn ⟨i0, j0, s.data.toList⟩ = R at *
  unfold maxLen at hs
  clear hx hy
  obtain ⟨c0, c1, c2, c3, c4, c5, c6, c7, c8, c9, c10, c11⟩ := fdC_of HB0.out.f; have cp0 := cell_block HB0.out.p 0 (.int .i64 i0) rfl; have cp1 := cell_block HB0.out.p 1 (.int .i64 j0) rfl; have cp2 := cell_block HB0.out.p 2 (.string s) rfl
  obtain ⟨hb, hhb⟩ : ∃ r, hasB m xn yn i0 j0 = r := ⟨_, rfl⟩
  obtain ⟨bb, hbb⟩ : ∃ r, beginB m i0 j0 = r := ⟨_, rfl⟩
  have HH : Hid (hasB m xn yn i0 j0 = hb) := hhb
  have HBb : Hid (beginB m i0 j0 = bb) := hbb
  rw [hhb, hbb] at HAl
  clear hhb hbb
  have CH : Hid (∀ W, Calls Try.prog 45 #[.agg (fdCells m sa sn sc ga gn gc xa xn xc ya yn yc), .int .i64 i0, .int .i64 j0] W fun e w' => e = .returned (.bool hb) ∧ Below W.heap.size W w') := fun W => by rw [← HH.out]; exact has_calls m sa sn sc ga gn gc xa xn xc ya yn yc i0 j0 W HX.out.1 HX.out.2
  have CB : Hid (∀ W, Calls Try.prog 46 #[.agg (fdCells m sa sn sc ga gn gc xa xn xc ya yn yc), .int .i64 i0, .int .i64 j0] W fun e w' => e = .returned (.bool bb) ∧ Below W.heap.size W w') := fun W => by rw [← HBb.out]; exact mayBegin_calls m sa sn sc ga gn gc xa xn xc ya yn yc i0 j0 W
  rw [show fdCells m sa sn sc ga gn gc xa xn xc ya yn yc = #[.int .i64 m.letters, .slice sa sn sc, .slice ga gn gc, .int .i64 m.mode, .bool m.banded, .int .i64 m.lo, .int .i64 m.hi, .int .i64 m.front, .int .i64 m.back, .int .i64 m.least, .slice xa xn xc, .slice ya yn yc] from rfl]
  go_enter Try.func27, Try.ntmps27
  go_wp2
  go_quiet (fail)
  go_wp2_with fail
  refine (CH.out _).mono ?_
  rintro e w1 ⟨rfl, hb1⟩
  have HB1 : Hid (G2 w (fdCells m sa sn sc ga gn gc xa xn xc ya yn yc) #[.int .i64 i0, .int .i64 j0, .string s] w1) := (HB0.out.drewN nq).next hb1
  clear hb1 HB0 c0 c1 c2 c3 c4 c5 c6 c7 c8 c9 c10 c11 cp0 cp1 cp2
  obtain ⟨c0, c1, c2, c3, c4, c5, c6, c7, c8, c9, c10, c11⟩ := fdC_of HB1.out.f; have cp0 := cell_block HB1.out.p 0 (.int .i64 i0) rfl; have cp1 := cell_block HB1.out.p 1 (.int .i64 j0) rfl; have cp2 := cell_block HB1.out.p 2 (.string s) rfl
  cases hb
  · go_wp2
    go_ret
    exact ⟨ret_bool (by rw [HAl.out]; rfl), HB1.out.low⟩
  · go_wp2_with fail
    refine (CB.out _).mono ?_
    rintro e w2 ⟨rfl, hb2⟩
    have HB2 : Hid (G2 w (fdCells m sa sn sc ga gn gc xa xn xc ya yn yc) #[.int .i64 i0, .int .i64 j0, .string s] w2) := HB1.out.next hb2
    clear hb2 HB1 c0 c1 c2 c3 c4 c5 c6 c7 c8 c9 c10 c11 cp0 cp1 cp2
    obtain ⟨c0, c1, c2, c3, c4, c5, c6, c7, c8, c9, c10, c11⟩ := fdC_of HB2.out.f; have cp0 := cell_block HB2.out.p 0 (.int .i64 i0) rfl; have cp1 := cell_block HB2.out.p 1 (.int .i64 j0) rfl; have cp2 := cell_block HB2.out.p 2 (.string s) rfl
    cases bb
    · go_wp2
      go_ret
      exact ⟨ret_bool (by rw [HAl.out]; rfl), HB2.out.low⟩
    · have HR : Hid (R = stepsB m xn yn i0 j0 (s.data.toList.drop 0)) := by have := HAl.out; simp only [Bool.true_and] at this; exact this
      clear HAl CB CH HBb
      go_wp2
      go_loopw [5, 6, 30] (fun i j k wr => ∃ (q : Nat) (a b : Int), q ≤ s.size ∧ k = .int .i64 q ∧ i = .int .i64 a ∧ j = .int .i64 b ∧ hasB m xn yn a b = true ∧ R = stepsB m xn yn a b (s.data.toList.drop q) ∧ G2 w (fdCells m sa sn sc ga gn gc xa xn xc ya yn yc) #[.int .i64 i0, .int .i64 j0, .string s] wr) (fun _ _ k _ => s.size - (intOf k).toNat)
      case atStart => exact ⟨0, i0, j0, Nat.zero_le _, rfl, rfl, rfl, HH.out, HR.out, HB2.out⟩
      case round =>
        clear c0 c1 c2 c3 c4 c5 c6 c7 c8 c9 c10 c11 cp0 cp1 cp2
        obtain ⟨q, a, b, hq, rfl, rfl, rfl, hab, hr, hB⟩ := hrel
        have hc := hasB_cells hab
        have HR2 : Hid (R = stepsB m xn yn a b (s.data.toList.drop q)) := hr
        have HBr : Hid (G2 w (fdCells m sa sn sc ga gn gc xa xn xc ya yn yc) #[.int .i64 i0, .int .i64 j0, .string s] wr) := hB
        clear hr hB hab HR HH HB2
        obtain ⟨c0, c1, c2, c3, c4, c5, c6, c7, c8, c9, c10, c11⟩ := fdC_of HBr.out.f; have cp0 := cell_block HBr.out.p 0 (.int .i64 i0) rfl; have cp1 := cell_block HBr.out.p 1 (.int .i64 j0) rfl; have cp2 := cell_block HBr.out.p 2 (.string s) rfl
        by_cases hql : q < s.size
        · obtain ⟨c, hcq⟩ : ∃ c, s[q] = c := ⟨_, rfl⟩
          have HG : Hid (s.data.toList[q]? = some c) := by rw [← hcq]; exact ba_list s q hql
          have hdn := dn_rng c
          have hov := ov_rng c
          obtain ⟨gb, hgb⟩ : ∃ r, goB m c = r := ⟨_, rfl⟩
          obtain ⟨hv, hhv⟩ : ∃ r, hasB m xn yn (a + dnB c) (b + ovB c) = r := ⟨_, rfl⟩
          have HS : Hid (R = ((gb && hv) && stepsB m xn yn (a + dnB c) (b + ovB c) (s.data.toList.drop (q + 1)))) := by have := HR2.out; rw [stepsB_cons HG.out, hgb, hhv] at this; exact this
          have HV : Hid (hasB m xn yn (a + dnB c) (b + ovB c) = hv) := hhv
          have CG : Hid (∀ W, Calls Try.prog 48 #[.agg #[.int .i64 m.letters, .slice sa sn sc, .slice ga gn gc, .int .i64 m.mode, .bool m.banded, .int .i64 m.lo, .int .i64 m.hi, .int .i64 m.front, .int .i64 m.back, .int .i64 m.least, .slice xa xn xc, .slice ya yn yc], .int .u8 c.toNat] W fun e w' => e = .returned (.bool gb) ∧ Below W.heap.size W w') := fun W => by rw [← hgb]; exact mayGo_calls m sa sn sc ga gn gc xa xn xc ya yn yc c W hg
          have CH : Hid (∀ W, Calls Try.prog 45 #[.agg #[.int .i64 m.letters, .slice sa sn sc, .slice ga gn gc, .int .i64 m.mode, .bool m.banded, .int .i64 m.lo, .int .i64 m.hi, .int .i64 m.front, .int .i64 m.back, .int .i64 m.least, .slice xa xn xc, .slice ya yn yc], .int .i64 (a + dnB c), .int .i64 (b + ovB c)] W fun e w' => e = .returned (.bool hv) ∧ Below W.heap.size W w') := fun W => by rw [← HV.out]; exact has_calls m sa sn sc ga gn gc xa xn xc ya yn yc _ _ W HX.out.1 HX.out.2
          have CS : Hid (∀ W, Calls Try.prog 47 #[.int .u8 c.toNat] W fun e w' => e = .returned (.tuple #[.int .i64 (dnB c), .int .i64 (ovB c)]) ∧ W = w') := fun W => step_calls c W
          clear hgb hhv HG HR2
          have HQ : Hid (s[q] = c) := hcq
          clear hcq
          go_wp2_with fail
          rw [HQ.out]
          refine (CS.out _).mono ?_
          rintro e w3 ⟨rfl, rfl⟩
          go_wp2_with fail
          refine (CG.out _).mono ?_
          rintro e w4 ⟨rfl, hb4⟩
          have HB4 : Hid (G2 w (fdCells m sa sn sc ga gn gc xa xn xc ya yn yc) #[.int .i64 i0, .int .i64 j0, .string s] w4) := HBr.out.next hb4
          clear hb4 HBr c0 c1 c2 c3 c4 c5 c6 c7 c8 c9 c10 c11 cp0 cp1 cp2
          obtain ⟨c0, c1, c2, c3, c4, c5, c6, c7, c8, c9, c10, c11⟩ := fdC_of HB4.out.f; have cp0 := cell_block HB4.out.p 0 (.int .i64 i0) rfl; have cp1 := cell_block HB4.out.p 1 (.int .i64 j0) rfl; have cp2 := cell_block HB4.out.p 2 (.string s) rfl
          cases gb
          · go_wp2
            go_ret
            exact ⟨ret_bool (by rw [HS.out]; rfl), HB4.out.low⟩
          · go_wp2_with fail
            refine (CH.out _).mono ?_
            rintro e w5 ⟨rfl, hb5⟩
            have HB5 : Hid (G2 w (fdCells m sa sn sc ga gn gc xa xn xc ya yn yc) #[.int .i64 i0, .int .i64 j0, .string s] w5) := HB4.out.next hb5
            clear hb5 HB4 c0 c1 c2 c3 c4 c5 c6 c7 c8 c9 c10 c11 cp0 cp1 cp2
            obtain ⟨c0, c1, c2, c3, c4, c5, c6, c7, c8, c9, c10, c11⟩ := fdC_of HB5.out.f; have cp0 := cell_block HB5.out.p 0 (.int .i64 i0) rfl; have cp1 := cell_block HB5.out.p 1 (.int .i64 j0) rfl; have cp2 := cell_block HB5.out.p 2 (.string s) rfl
            cases hv
            · go_wp2
              go_ret
              exact ⟨ret_bool (by rw [HS.out]; rfl), HB5.out.low⟩
            · go_wp2
              go_roundw
              case rel =>
                exact ⟨q + 1, a + dnB c, b + ovB c, by omega, by go_num, rfl, rfl, HV.out, by rw [HS.out]; simp, HB5.out⟩
              case measure => simp [intOf]; omega
        · have hqe : s.data.toList.drop q = [] := List.drop_eq_nil_of_le (by rw [ba_size]; omega)
          have HE : Hid (R = endB m xn yn a b) := by have := HR2.out; rw [hqe] at this; exact this
          go_wp2_with fail
          refine (mayEnd_calls m sa sn sc ga gn gc xa xn xc ya yn yc a b _).mono ?_
          rintro e w4 ⟨rfl, hb4⟩
          go_wp2
          go_ret
          exact ⟨ret_bool (by rw [HE.out]), HBr.out.low.trans (hb4.mono HBr.out.low.size)⟩
end Go.Proofs.Ytegndeefddlccaa
