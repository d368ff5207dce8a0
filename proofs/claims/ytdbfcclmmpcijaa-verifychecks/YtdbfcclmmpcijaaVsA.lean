/-
  The walk of the statements' own same, of two codes that are the same.
-/
import Derived.Test.YtdbfcclmmpcijaaVdK
import Derived.Test.YtdbfcclmmpcijaaVcB
namespace Go.Proofs.Ytdbfcclmmpcijaa
open Go.RowKit

theorem guard35 : Try.prog.eqGuardType Try.prog.depth 35 = false := by kernel_rfl
theorem fields35 : Try.prog.underlying 35 = some (.struct (Try.prog.fieldsOf 35)) := by kernel_rfl
theorem held35 : Try.prog.stoodInHeld 35 = false := by kernel_rfl
theorem equal_q35 (o x y z o2 x2 y2 z2 : Int) (W : World) : (Op.equalIn 10000 35 (.agg #[.int .i64 o, .int .i64 x, .int .i64 y, .int .i64 z]) (.agg #[.int .i64 o2, .int .i64 x2, .int .i64 y2, .int .i64 z2])).run Try.prog W = .ok (decide ((o, x, y, z) = (o2, x2, y2, z2))) W := by
  rw [show (10000 : Nat) = 9999 + 1 from rfl, run_equalIn_agg W 9999 35 _ _ fields35 held35]
  simp only [Program.fieldsOf, Try.underlying35]
  go_simp
  by_cases h1 : o = o2 <;> by_cases h2 : x = x2 <;> by_cases h3 : y = y2 <;> by_cases h4 : z = z2 <;> simp [h1, h2, h3, h4]
/-- Two boxes. -/
structure B2 (w : World) (cs ds : Array Value) (wr : World) : Prop where
  low : Below w.heap.size w wr
  one : wr.heap[w.heap.size]? = some (.cells cs 26 (0, 0))
  two : wr.heap[w.heap.size + 1]? = some (.cells ds 26 (0, 0))
theorem B2.start (w : World) (cs ds : Array Value) : B2 w cs ds ((w.alloc (.cells cs 26)).alloc (.cells ds 26)) := by
  refine ⟨(below_new _).alloc (by simp) _, ?_, ?_⟩
  · rw [(below_new _).block _ (by simp), heap_alloc_new]
  · rw [show w.heap.size + 1 = (w.alloc (.cells cs 26)).heap.size by simp, heap_alloc_new]
theorem B2.next {w : World} {cs ds : Array Value} {wr w2 : World} (h : B2 w cs ds wr) (hb : Below wr.heap.size wr w2) : B2 w cs ds w2 :=
  ⟨h.low.trans (hb.mono h.low.size), by rw [hb.block _ (lt_block h.one)]; exact h.one, by rw [hb.block _ (lt_block h.two)]; exact h.two⟩
theorem B2.c {w : World} {cs ds : Array Value} {wr : World} (h : B2 w cs ds wr) (i : Nat) (v : Value) (hv : cs[i]? = some v) : wr.cell? ⟨w.heap.size, i, none⟩ = some v := cell_block h.one i v hv
theorem B2.d {w : World} {cs ds : Array Value} {wr : World} (h : B2 w cs ds wr) (i : Nat) (v : Value) (hv : ds[i]? = some v) : wr.cell? ⟨w.heap.size + 1, i, none⟩ = some v := cell_block h.two i v hv
set_option maxRecDepth 20000 in
set_option maxHeartbeats 4000000 in
theorem same_calls (c : Cd) (s t : Ls) (w : World) (h : CdAt w c s) (k : CdAt w c t) :
    Calls Try.prog 12 #[.agg (cdCells c s), .agg (cdCells c t)] w fun e w' => e = .returned (.bool true) ∧ Below w.heap.size w w' := by
  obtain ⟨⟨aa, tn, ac⟩, ⟨ab, kn, ad⟩, ⟨ae, n3, af⟩, ⟨ag, rn, ah⟩⟩ := s
  obtain ⟨⟨ba, tm, bc⟩, ⟨bb, km, bd⟩, ⟨be, m3, bf⟩, ⟨bg, rm, bh⟩⟩ := t
  obtain rfl : tn = tm := h.table.length.symm.trans k.table.length
  obtain rfl : kn = km := h.consts.length.symm.trans k.consts.length
  obtain rfl : n3 = m3 := h.cell.length.symm.trans k.cell.length
  obtain rfl : rn = rm := h.arrows.length.symm.trans k.arrows.length
  have q1 := h.table.short
  have q2 := h.consts.short
  have q3 := h.cell.short
  have q4 := h.arrows.short
  unfold maxLen at q1 q2 q3 q4
  simp only at q1 q2 q3 q4
  have HC : Hid (CdAt w c ⟨⟨aa, tn, ac⟩, ⟨ab, kn, ad⟩, ⟨ae, n3, af⟩, ⟨ag, rn, ah⟩⟩) := h
  have HD : Hid (CdAt w c ⟨⟨ba, tn, bc⟩, ⟨bb, kn, bd⟩, ⟨be, n3, bf⟩, ⟨bg, rn, bh⟩⟩) := k
  have HL : Hid (c.table.length = tn ∧ c.consts.length = kn ∧ c.cell.length = n3 ∧ c.arrows.length = rn) := ⟨h.table.length, h.consts.length, h.cell.length, h.arrows.length⟩
  clear h k
  have HX0 : Hid (B2 w #[.int .i64 c.letters, .int .i64 c.planes, .int .i64 c.regs, .int .i64 c.lo, .int .i64 c.hi, .int .i64 c.most, .slice aa tn ac, .slice ab kn ad, .slice ae n3 af, .slice ag rn ah] #[.int .i64 c.letters, .int .i64 c.planes, .int .i64 c.regs, .int .i64 c.lo, .int .i64 c.hi, .int .i64 c.most, .slice ba tn bc, .slice bb kn bd, .slice be n3 bf, .slice bg rn bh] ((w.alloc (.cells #[.int .i64 c.letters, .int .i64 c.planes, .int .i64 c.regs, .int .i64 c.lo, .int .i64 c.hi, .int .i64 c.most, .slice aa tn ac, .slice ab kn ad, .slice ae n3 af, .slice ag rn ah] 26)).alloc (.cells #[.int .i64 c.letters, .int .i64 c.planes, .int .i64 c.regs, .int .i64 c.lo, .int .i64 c.hi, .int .i64 c.most, .slice ba tn bc, .slice bb kn bd, .slice be n3 bf, .slice bg rn bh] 26))) := B2.start w _ _
  have e1 : ((tn : Int) != (tn : Int)) = false := by simp
  have e2 : ((kn : Int) != (kn : Int)) = false := by simp
  have e3 : ((n3 : Int) != (n3 : Int)) = false := by simp
  have e4 : ((rn : Int) != (rn : Int)) = false := by simp
  simp only [cdCells]
  go_enter Try.func12, Try.ntmps12
  go_upto_region 1 with (fail)
  generalize (w.alloc (.cells #[.int .i64 c.letters, .int .i64 c.planes, .int .i64 c.regs, .int .i64 c.lo, .int .i64 c.hi, .int .i64 c.most, .slice aa tn ac, .slice ab kn ad, .slice ae n3 af, .slice ag rn ah] 26)).alloc (.cells #[.int .i64 c.letters, .int .i64 c.planes, .int .i64 c.regs, .int .i64 c.lo, .int .i64 c.hi, .int .i64 c.most, .slice ba tn bc, .slice bb kn bd, .slice be n3 bf, .slice bg rn bh] 26) = w1 at *

  have x6 := HX0.out.c 6 (.slice aa tn ac) rfl
  have y6 := HX0.out.d 6 (.slice ba tn bc) rfl
  have x7 := HX0.out.c 7 (.slice ab kn ad) rfl
  have y7 := HX0.out.d 7 (.slice bb kn bd) rfl
  have x8 := HX0.out.c 8 (.slice ae n3 af) rfl
  have y8 := HX0.out.d 8 (.slice be n3 bf) rfl
  have x9 := HX0.out.c 9 (.slice ag rn ah) rfl
  have y9 := HX0.out.d 9 (.slice bg rn bh) rfl
  go_wp2
  clear x6 y6 x7 y7 x8 y8 x9 y9
  go_loopw [5] (fun i wr => ∃ k : Nat, k ≤ tn ∧ i = .int .i64 k ∧ B2 w #[.int .i64 c.letters, .int .i64 c.planes, .int .i64 c.regs, .int .i64 c.lo, .int .i64 c.hi, .int .i64 c.most, .slice aa tn ac, .slice ab kn ad, .slice ae n3 af, .slice ag rn ah] #[.int .i64 c.letters, .int .i64 c.planes, .int .i64 c.regs, .int .i64 c.lo, .int .i64 c.hi, .int .i64 c.most, .slice ba tn bc, .slice bb kn bd, .slice be n3 bf, .slice bg rn bh] wr) (fun i _ => tn - (intOf i).toNat)
  case atStart => exact ⟨0, Nat.zero_le _, rfl, HX0.out⟩
  case round =>
    obtain ⟨k, hk, rfl, hx⟩ := hrel
    have HX1 : Hid (B2 w #[.int .i64 c.letters, .int .i64 c.planes, .int .i64 c.regs, .int .i64 c.lo, .int .i64 c.hi, .int .i64 c.most, .slice aa tn ac, .slice ab kn ad, .slice ae n3 af, .slice ag rn ah] #[.int .i64 c.letters, .int .i64 c.planes, .int .i64 c.regs, .int .i64 c.lo, .int .i64 c.hi, .int .i64 c.most, .slice ba tn bc, .slice bb kn bd, .slice be n3 bf, .slice bg rn bh] wr) := hx
    clear hx HX0
    have x6 := HX1.out.c 6 (.slice aa tn ac) rfl
    have y6 := HX1.out.d 6 (.slice ba tn bc) rfl
    by_cases hlt : k < tn
    · obtain ⟨b1, o1, hb1, hc1⟩ := ((HC.out.below HX1.out.low).table).cells (by show 0 < tn; omega)
      obtain ⟨b2, o2, hb2, hc2⟩ := ((HD.out.below HX1.out.low).table).cells (by show 0 < tn; omega)
      have z1 := hc1 k hlt
      have z2 := hc2 k hlt
      simp only at hb1 hb2
      rw [hb1] at x6
      rw [hb2] at y6
      generalize c.table.getD k 0 = z at *
      have hzz : (z != z) = false := by simp
      clear hc1 hc2 hb1 hb2
      go_wp2_with fail
      go_quiet (fail)
      have HXn : Hid (B2 w #[.int .i64 c.letters, .int .i64 c.planes, .int .i64 c.regs, .int .i64 c.lo, .int .i64 c.hi, .int .i64 c.most, .slice aa tn ac, .slice ab kn ad, .slice ae n3 af, .slice ag rn ah] #[.int .i64 c.letters, .int .i64 c.planes, .int .i64 c.regs, .int .i64 c.lo, .int .i64 c.hi, .int .i64 c.most, .slice ba tn bc, .slice bb kn bd, .slice be n3 bf, .slice bg rn bh] (wr.drewN nq)) := HX1.out.next (below_drewN (Below.refl _ _) nq)
      clear x6 y6 z1 z2
      generalize wr.drewN nq = wz at *
      go_wp2
      go_roundw
      case rel => exact ⟨k + 1, by omega, by go_num, HXn.out⟩
      case measure => simp [intOf]; omega
    · obtain rfl : tn = k := by omega
      obtain ⟨wo0, hwo⟩ : ∃ W, W = wr := ⟨wr, rfl⟩
      rw [← hwo] at HX1 x6 y6 ⊢
      clear hwo hlt hk
      clear wr
      go_wp2
      clear x6 y6
      go_loopw [6] (fun i wr => ∃ k : Nat, k ≤ kn ∧ i = .int .i64 k ∧ B2 w #[.int .i64 c.letters, .int .i64 c.planes, .int .i64 c.regs, .int .i64 c.lo, .int .i64 c.hi, .int .i64 c.most, .slice aa tn ac, .slice ab kn ad, .slice ae n3 af, .slice ag rn ah] #[.int .i64 c.letters, .int .i64 c.planes, .int .i64 c.regs, .int .i64 c.lo, .int .i64 c.hi, .int .i64 c.most, .slice ba tn bc, .slice bb kn bd, .slice be n3 bf, .slice bg rn bh] wr) (fun i _ => kn - (intOf i).toNat)
      case atStart => exact ⟨0, Nat.zero_le _, rfl, HX1.out⟩
      case round =>
        obtain ⟨k, hk, rfl, hx⟩ := hrel
        have HX2 : Hid (B2 w #[.int .i64 c.letters, .int .i64 c.planes, .int .i64 c.regs, .int .i64 c.lo, .int .i64 c.hi, .int .i64 c.most, .slice aa tn ac, .slice ab kn ad, .slice ae n3 af, .slice ag rn ah] #[.int .i64 c.letters, .int .i64 c.planes, .int .i64 c.regs, .int .i64 c.lo, .int .i64 c.hi, .int .i64 c.most, .slice ba tn bc, .slice bb kn bd, .slice be n3 bf, .slice bg rn bh] wr) := hx
        clear hx HX1
        have x7 := HX2.out.c 7 (.slice ab kn ad) rfl
        have y7 := HX2.out.d 7 (.slice bb kn bd) rfl
        by_cases hlt : k < kn
        · obtain ⟨b1, o1, hb1, hc1⟩ := ((HC.out.below HX2.out.low).consts).cells (by show 0 < kn; omega)
          obtain ⟨b2, o2, hb2, hc2⟩ := ((HD.out.below HX2.out.low).consts).cells (by show 0 < kn; omega)
          have z1 := hc1 k hlt
          have z2 := hc2 k hlt
          simp only at hb1 hb2
          rw [hb1] at x7
          rw [hb2] at y7
          generalize c.consts.getD k 0 = z at *
          have hzz : (z != z) = false := by simp
          clear hc1 hc2 hb1 hb2
          go_wp2_with fail
          go_quiet (fail)
          have HXn : Hid (B2 w #[.int .i64 c.letters, .int .i64 c.planes, .int .i64 c.regs, .int .i64 c.lo, .int .i64 c.hi, .int .i64 c.most, .slice aa tn ac, .slice ab kn ad, .slice ae n3 af, .slice ag rn ah] #[.int .i64 c.letters, .int .i64 c.planes, .int .i64 c.regs, .int .i64 c.lo, .int .i64 c.hi, .int .i64 c.most, .slice ba tn bc, .slice bb kn bd, .slice be n3 bf, .slice bg rn bh] (wr.drewN nq)) := HX2.out.next (below_drewN (Below.refl _ _) nq)
          clear x7 y7 z1 z2
          generalize wr.drewN nq = wz at *
          go_wp2
          go_roundw
          case rel => exact ⟨k + 1, by omega, by go_num, HXn.out⟩
          case measure => simp [intOf]; omega
        · obtain rfl : kn = k := by omega
          obtain ⟨wo1, hwo⟩ : ∃ W, W = wr := ⟨wr, rfl⟩
          rw [← hwo] at HX2 x7 y7 ⊢
          clear hwo hlt hk
          clear wr
          go_wp2
          clear x7 y7
          go_loopw [7] (fun i wr => ∃ k : Nat, k ≤ n3 ∧ i = .int .i64 k ∧ B2 w #[.int .i64 c.letters, .int .i64 c.planes, .int .i64 c.regs, .int .i64 c.lo, .int .i64 c.hi, .int .i64 c.most, .slice aa tn ac, .slice ab kn ad, .slice ae n3 af, .slice ag rn ah] #[.int .i64 c.letters, .int .i64 c.planes, .int .i64 c.regs, .int .i64 c.lo, .int .i64 c.hi, .int .i64 c.most, .slice ba tn bc, .slice bb kn bd, .slice be n3 bf, .slice bg rn bh] wr) (fun i _ => n3 - (intOf i).toNat)
          case atStart => exact ⟨0, Nat.zero_le _, rfl, HX2.out⟩
          case round =>
            obtain ⟨k, hk, rfl, hx⟩ := hrel
            have HX3 : Hid (B2 w #[.int .i64 c.letters, .int .i64 c.planes, .int .i64 c.regs, .int .i64 c.lo, .int .i64 c.hi, .int .i64 c.most, .slice aa tn ac, .slice ab kn ad, .slice ae n3 af, .slice ag rn ah] #[.int .i64 c.letters, .int .i64 c.planes, .int .i64 c.regs, .int .i64 c.lo, .int .i64 c.hi, .int .i64 c.most, .slice ba tn bc, .slice bb kn bd, .slice be n3 bf, .slice bg rn bh] wr) := hx
            clear hx HX2
            have x8 := HX3.out.c 8 (.slice ae n3 af) rfl
            have y8 := HX3.out.d 8 (.slice be n3 bf) rfl
            by_cases hlt : k < n3
            · obtain ⟨q, hq⟩ := get_lt (l := c.cell) (k := k) (by rw [HL.out.2.2.1]; exact hlt)
              obtain ⟨b1, o1, hb1, hc1⟩ := ((HC.out.below HX3.out.low).cell).cells (by show 0 < n3; omega)
              obtain ⟨b2, o2, hb2, hc2⟩ := ((HD.out.below HX3.out.low).cell).cells (by show 0 < n3; omega)
              obtain ⟨u1, u2, u3, u4⟩ := hc1 k q hq
              obtain ⟨v1, v2, v3, v4⟩ := hc2 k q hq
              simp only at hb1 hb2
              rw [hb1] at x8
              rw [hb2] at y8
              obtain ⟨q0, q1', q2', q3'⟩ := q
              simp only at u1 u2 u3 u4 v1 v2 v3 v4
              have he := equal_q35 q0 q1' q2' q3' q0 q1' q2' q3'
              have hg := guard35
              rw [decide_eq_true (rfl : (q0, q1', q2', q3') = (q0, q1', q2', q3'))] at he
              clear hc1 hc2 hb1 hb2 hq
              go_wp2_with fail
              go_quiet (fail)
              have HXn : Hid (B2 w #[.int .i64 c.letters, .int .i64 c.planes, .int .i64 c.regs, .int .i64 c.lo, .int .i64 c.hi, .int .i64 c.most, .slice aa tn ac, .slice ab kn ad, .slice ae n3 af, .slice ag rn ah] #[.int .i64 c.letters, .int .i64 c.planes, .int .i64 c.regs, .int .i64 c.lo, .int .i64 c.hi, .int .i64 c.most, .slice ba tn bc, .slice bb kn bd, .slice be n3 bf, .slice bg rn bh] (wr.drewN nq)) := HX3.out.next (below_drewN (Below.refl _ _) nq)
              clear x8 y8 u1 u2 u3 u4 v1 v2 v3 v4 he
              generalize wr.drewN nq = wz at *
              go_wp2
              go_roundw
              case rel => exact ⟨k + 1, by omega, by go_num, HXn.out⟩
              case measure => simp [intOf]; omega
            · obtain rfl : n3 = k := by omega
              obtain ⟨wo2, hwo⟩ : ∃ W, W = wr := ⟨wr, rfl⟩
              rw [← hwo] at HX3 x8 y8 ⊢
              clear hwo hlt hk
              clear wr
              go_wp2
              clear x8 y8
              go_loopw [8] (fun i wr => ∃ k : Nat, k ≤ rn ∧ i = .int .i64 k ∧ B2 w #[.int .i64 c.letters, .int .i64 c.planes, .int .i64 c.regs, .int .i64 c.lo, .int .i64 c.hi, .int .i64 c.most, .slice aa tn ac, .slice ab kn ad, .slice ae n3 af, .slice ag rn ah] #[.int .i64 c.letters, .int .i64 c.planes, .int .i64 c.regs, .int .i64 c.lo, .int .i64 c.hi, .int .i64 c.most, .slice ba tn bc, .slice bb kn bd, .slice be n3 bf, .slice bg rn bh] wr) (fun i _ => rn - (intOf i).toNat)
              case atStart => exact ⟨0, Nat.zero_le _, rfl, HX3.out⟩
              case round =>
                obtain ⟨k, hk, rfl, hx⟩ := hrel
                have HX4 : Hid (B2 w #[.int .i64 c.letters, .int .i64 c.planes, .int .i64 c.regs, .int .i64 c.lo, .int .i64 c.hi, .int .i64 c.most, .slice aa tn ac, .slice ab kn ad, .slice ae n3 af, .slice ag rn ah] #[.int .i64 c.letters, .int .i64 c.planes, .int .i64 c.regs, .int .i64 c.lo, .int .i64 c.hi, .int .i64 c.most, .slice ba tn bc, .slice bb kn bd, .slice be n3 bf, .slice bg rn bh] wr) := hx
                clear hx HX3
                have x9 := HX4.out.c 9 (.slice ag rn ah) rfl
                have y9 := HX4.out.d 9 (.slice bg rn bh) rfl
                by_cases hlt : k < rn
                · obtain ⟨q, hq⟩ := get_lt (l := c.arrows) (k := k) (by rw [HL.out.2.2.2]; exact hlt)
                  obtain ⟨b1, o1, hb1, hc1⟩ := ((HC.out.below HX4.out.low).arrows).cells (by show 0 < rn; omega)
                  obtain ⟨b2, o2, hb2, hc2⟩ := ((HD.out.below HX4.out.low).arrows).cells (by show 0 < rn; omega)
                  obtain ⟨u1, u2, u3, u4⟩ := hc1 k q hq
                  obtain ⟨v1, v2, v3, v4⟩ := hc2 k q hq
                  simp only at hb1 hb2
                  rw [hb1] at x9
                  rw [hb2] at y9
                  obtain ⟨q0, q1', q2', q3'⟩ := q
                  simp only at u1 u2 u3 u4 v1 v2 v3 v4
                  have he := equal_q42 q0 q1' q2' q3' q0 q1' q2' q3'
                  have hg := guard42
                  rw [decide_eq_true (rfl : (q0, q1', q2', q3') = (q0, q1', q2', q3'))] at he
                  clear hc1 hc2 hb1 hb2 hq
                  go_wp2_with fail
                  go_quiet (fail)
                  have HXn : Hid (B2 w #[.int .i64 c.letters, .int .i64 c.planes, .int .i64 c.regs, .int .i64 c.lo, .int .i64 c.hi, .int .i64 c.most, .slice aa tn ac, .slice ab kn ad, .slice ae n3 af, .slice ag rn ah] #[.int .i64 c.letters, .int .i64 c.planes, .int .i64 c.regs, .int .i64 c.lo, .int .i64 c.hi, .int .i64 c.most, .slice ba tn bc, .slice bb kn bd, .slice be n3 bf, .slice bg rn bh] (wr.drewN nq)) := HX4.out.next (below_drewN (Below.refl _ _) nq)
                  clear x9 y9 u1 u2 u3 u4 v1 v2 v3 v4 he
                  generalize wr.drewN nq = wz at *
                  go_wp2
                  go_roundw
                  case rel => exact ⟨k + 1, by omega, by go_num, HXn.out⟩
                  case measure => simp [intOf]; omega
                · obtain rfl : rn = k := by omega
                  obtain ⟨wo3, hwo⟩ : ∃ W, W = wr := ⟨wr, rfl⟩
                  rw [← hwo] at HX4 x9 y9 ⊢
                  clear hwo hlt hk
                  clear wr
                  have p0 := HX4.out.c 0 (.int .i64 c.letters) rfl
                  have r0 := HX4.out.d 0 (.int .i64 c.letters) rfl
                  have t0 : (c.letters == c.letters) = true := by simp
                  have p1 := HX4.out.c 1 (.int .i64 c.planes) rfl
                  have r1 := HX4.out.d 1 (.int .i64 c.planes) rfl
                  have t1 : (c.planes == c.planes) = true := by simp
                  have p2 := HX4.out.c 2 (.int .i64 c.regs) rfl
                  have r2 := HX4.out.d 2 (.int .i64 c.regs) rfl
                  have t2 : (c.regs == c.regs) = true := by simp
                  have p3 := HX4.out.c 3 (.int .i64 c.lo) rfl
                  have r3 := HX4.out.d 3 (.int .i64 c.lo) rfl
                  have t3 : (c.lo == c.lo) = true := by simp
                  have p4 := HX4.out.c 4 (.int .i64 c.hi) rfl
                  have r4 := HX4.out.d 4 (.int .i64 c.hi) rfl
                  have t4 : (c.hi == c.hi) = true := by simp
                  have p5 := HX4.out.c 5 (.int .i64 c.most) rfl
                  have r5 := HX4.out.d 5 (.int .i64 c.most) rfl
                  have t5 : (c.most == c.most) = true := by simp
                  go_wp2
                  go_ret
                  exact ⟨rfl, HX4.out.low⟩
end Go.Proofs.Ytdbfcclmmpcijaa
