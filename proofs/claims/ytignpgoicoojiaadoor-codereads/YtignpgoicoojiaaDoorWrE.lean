/-
  The walk of written.
-/
import Derived.Test.YtignpgoicoojiaaDoorWrF
namespace Go.Proofs.YtignpgoicoojiaaDoor
open Go.RowKit

set_option maxHeartbeats 4000000 in
theorem written_calls (c : Cd) (s : Ls) (w : World) (h : CdAt w c s) (hr : Rt c) :
    Calls Tryd.prog 30 #[.agg (cdCells c s)] w fun e w' => ∃ v, e = .returned v ∧ w'.ownsRow w.heap.size 5 1 v (bodyB c).length (byteVals (bodyB c)) ∧ Below w.heap.size w w' := by
  have HR : Hid (Rt c) := hr
  have HLs : Hid ((b1 c).length ≤ 100 ∧ (b2 c).length ≤ 4000 ∧ (b3 c).length ≤ 4100 ∧ (b4 c).length ≤ 5100 ∧ (b5 c).length ≤ 5200 ∧ (b6 c).length ≤ 42000 ∧ (b7 c).length ≤ 42100 ∧ (bodyB c).length ≤ 50000) := hr.lens
  have ht : s.t.n ≤ 400 := by rw [← h.table.length]; exact hr.tl
  have hk : s.k.n ≤ 100 := by rw [← h.consts.length]; exact hr.kl
  have hc : s.i.n ≤ 1000 := by rw [← h.cell.length]; exact hr.cl
  have ha : s.r.n ≤ 160 := by rw [← h.arrows.length]; exact hr.al
  obtain ⟨⟨ta, tn, tc⟩, ⟨ka, kn, kc⟩, ⟨ia, n3, ic⟩, ⟨ra, rn, rc⟩⟩ := s
  simp only at ht hk hc ha
  have HKl : Hid (c.consts.length = kn ∧ c.cell.length = n3 ∧ c.arrows.length = rn) := ⟨h.consts.length, h.cell.length, h.arrows.length⟩
  obtain ⟨w1, hw1⟩ : ∃ w1, w.alloc (.cells #[.int .i64 c.letters, .int .i64 c.planes, .int .i64 c.regs, .int .i64 c.lo, .int .i64 c.hi, .int .i64 c.most, .slice ta tn tc, .slice ka kn kc, .slice ia n3 ic, .slice ra rn rc] 26) = w1 := ⟨_, rfl⟩
  have HX0 : Hid (Bx w (cdCells c ⟨⟨ta, tn, tc⟩, ⟨ka, kn, kc⟩, ⟨ia, n3, ic⟩, ⟨ra, rn, rc⟩⟩) w1) := by rw [← hw1]; exact Bx.start w _
  have HC : Hid (CdAt w1 c ⟨⟨ta, tn, tc⟩, ⟨ka, kn, kc⟩, ⟨ia, n3, ic⟩, ⟨ra, rn, rc⟩⟩) := by rw [← hw1]; exact h.below (below_new _)
  have hsz0 : w1.heap.size = w.heap.size + 1 := by rw [← hw1]; simp
  have HW1 : Hid (w.alloc (.cells #[.int .i64 c.letters, .int .i64 c.planes, .int .i64 c.regs, .int .i64 c.lo, .int .i64 c.hi, .int .i64 c.most, .slice ta tn tc, .slice ka kn kc, .slice ia n3 ic, .slice ra rn rc] 26) = w1) := hw1
  clear h hr hw1
  have HL1 : Hid (Calls Tryd.prog 42 #[.slice none 0 0, .slice (some ⟨w.heap.size + 1, 0, none⟩) 6 6] (w1.alloc (.cells #[.int .i64 c.letters, .int .i64 c.planes, .int .i64 c.regs, .int .i64 c.lo, .int .i64 c.hi, .int .i64 c.most] 3)) fun e w' => ∃ v', e = .returned v' ∧ BufAt w1.heap.size (b1 c) v' (w1.alloc (.cells #[.int .i64 c.letters, .int .i64 c.planes, .int .i64 c.regs, .int .i64 c.lo, .int .i64 c.hi, .int .i64 c.most] 3)) w') := by
    have h1 : IntsAt (w1.alloc (.cells #[.int .i64 c.letters, .int .i64 c.planes, .int .i64 c.regs, .int .i64 c.lo, .int .i64 c.hi, .int .i64 c.most] 3)) (some ⟨w.heap.size + 1, 0, none⟩) 6 [c.letters, c.planes, c.regs, c.lo, c.hi, c.most] := ints_six w1 _ _ _ _ _ _ _ hsz0.symm
    have h2 : IntsB w1.heap.size (w1.alloc (.cells #[.int .i64 c.letters, .int .i64 c.planes, .int .i64 c.regs, .int .i64 c.lo, .int .i64 c.hi, .int .i64 c.most] 3)) (some ⟨w.heap.size + 1, 0, none⟩) 6 [c.letters, c.planes, c.regs, c.lo, c.hi, c.most] := IntsB.new h1 (by rw [← hsz0]; exact heap_alloc_new w1 _)
    have h3 := laid_calls w1.heap.size [] none 0 _ 6 6 _ _ (World.ownsRow_nil _ _ _ _) (by simp) h2 HR.out.six (by decide)
    exact h3
  rw [show cdCells c ⟨⟨ta, tn, tc⟩, ⟨ka, kn, kc⟩, ⟨ia, n3, ic⟩, ⟨ra, rn, rc⟩⟩ = #[.int .i64 c.letters, .int .i64 c.planes, .int .i64 c.regs, .int .i64 c.lo, .int .i64 c.hi, .int .i64 c.most, .slice ta tn tc, .slice ka kn kc, .slice ia n3 ic, .slice ra rn rc] from rfl]
  go_enter Tryd.func30, Tryd.ntmps30
  go_wp2_with fail
  rw [HW1.out]
  refine HL1.out.mono ?_
  rintro e w2 ⟨v, rfl, hb⟩
  have HB : Hid (BufAt w1.heap.size (b1 c) v w1 w2) := ⟨hb.1, (below_one (Nat.le_refl _) _).trans hb.2⟩
  clear hb
  obtain ⟨aw3, cw3, rfl⟩ := owned_shape HB.out.1
  have HX : Hid (Bx w (cdCells c ⟨⟨ta, tn, tc⟩, ⟨ka, kn, kc⟩, ⟨ia, n3, ic⟩, ⟨ra, rn, rc⟩⟩) w2) := HX0.out.next HB.out.2
  have hsz : w1.heap.size ≤ w2.heap.size := HB.out.2.size
  have c6 := HX.out.cell 6 (.slice ta tn tc) rfl
  go_wp2_with fail
  refine (laid_calls w1.heap.size (b1 c) aw3 cw3 ta tn tc c.table _ HB.out.1 hsz (IntsB.of (HC.out.below HB.out.2).table HC.out.table (Nat.le_refl _)) HR.out.tb (by have := HLs.out; omega)).mono ?_
  rintro e w3 ⟨v, rfl, hb⟩
  have HB2 : Hid (BufAt w1.heap.size (b2 c) v w1 w3) := HB.out.two (Below.refl _ _) hb
  clear hb HB HX c6
  have HB : Hid _ := HB2
  clear HB2
  obtain ⟨aw4, cw4, rfl⟩ := owned_shape HB.out.1
  have HX : Hid (Bx w (cdCells c ⟨⟨ta, tn, tc⟩, ⟨ka, kn, kc⟩, ⟨ia, n3, ic⟩, ⟨ra, rn, rc⟩⟩) w3) := HX0.out.next HB.out.2
  have hsz : w1.heap.size ≤ w3.heap.size := HB.out.2.size
  have c7 := HX.out.cell 7 (.slice ka kn kc) rfl
  have HB2 : Hid (BufAt w1.heap.size (b2 c) (.slice aw4 (b2 c).length cw4) w1 w3) := HB.out
  go_wp2_with fail
  refine (laid_calls w1.heap.size (b2 c) aw4 cw4 _ 1 1 [(kn : Int)] _ (HB2.out.1.alloc _) (by simp; omega) (IntsB.new (ints_one w3 _ _ rfl) (heap_alloc_new w3 _)) (okN_len (by omega)) (by have := HLs.out; omega)).mono ?_
  rintro e w4 ⟨v, rfl, hb⟩
  have HB3 : Hid (BufAt w1.heap.size (b3 c) v w1 w4) := by
    have h9 : b3 c = b2 c ++ numsB [(kn : Int)] := by rw [← HKl.out.1]; rfl
    rw [h9]
    exact HB2.out.two (below_one hsz _) hb
  clear hb HB HX c7 HB2
  have HB : Hid _ := HB3
  clear HB3
  obtain ⟨aw5, cw5, rfl⟩ := owned_shape HB.out.1
  have HX : Hid (Bx w (cdCells c ⟨⟨ta, tn, tc⟩, ⟨ka, kn, kc⟩, ⟨ia, n3, ic⟩, ⟨ra, rn, rc⟩⟩) w4) := HX0.out.next HB.out.2
  have hsz : w1.heap.size ≤ w4.heap.size := HB.out.2.size
  have c7 := HX.out.cell 7 (.slice ka kn kc) rfl
  go_wp2_with fail
  refine (laid_calls w1.heap.size (b3 c) aw5 cw5 ka kn kc c.consts _ HB.out.1 hsz (IntsB.of (HC.out.below HB.out.2).consts HC.out.consts (Nat.le_refl _)) HR.out.ks (by have := HLs.out; omega)).mono ?_
  rintro e w5 ⟨v, rfl, hb⟩
  have HB2 : Hid (BufAt w1.heap.size (b4 c) v w1 w5) := HB.out.two (Below.refl _ _) hb
  clear hb HB HX c7
  have HB : Hid _ := HB2
  clear HB2
  obtain ⟨aw6, cw6, rfl⟩ := owned_shape HB.out.1
  have HX : Hid (Bx w (cdCells c ⟨⟨ta, tn, tc⟩, ⟨ka, kn, kc⟩, ⟨ia, n3, ic⟩, ⟨ra, rn, rc⟩⟩) w5) := HX0.out.next HB.out.2
  have hsz : w1.heap.size ≤ w5.heap.size := HB.out.2.size
  have c8 := HX.out.cell 8 (.slice ia n3 ic) rfl
  have HB2 : Hid (BufAt w1.heap.size (b4 c) (.slice aw6 (b4 c).length cw6) w1 w5) := HB.out
  go_wp2_with fail
  refine (laid_calls w1.heap.size (b4 c) aw6 cw6 _ 1 1 [(n3 : Int)] _ (HB2.out.1.alloc _) (by simp; omega) (IntsB.new (ints_one w5 _ _ rfl) (heap_alloc_new w5 _)) (okN_len (by omega)) (by have := HLs.out; omega)).mono ?_
  rintro e w6 ⟨v, rfl, hb⟩
  have HB3 : Hid (BufAt w1.heap.size (b5 c) v w1 w6) := by
    have h9 : b5 c = b4 c ++ numsB [(n3 : Int)] := by rw [← HKl.out.2.1]; rfl
    rw [h9]
    exact HB2.out.two (below_one hsz _) hb
  clear hb HB HX c8 HB2
  have HB : Hid _ := HB3
  clear HB3
  obtain ⟨a9, c9', rfl⟩ := owned_shape HB.out.1
  have HX : Hid (Bx w (cdCells c ⟨⟨ta, tn, tc⟩, ⟨ka, kn, kc⟩, ⟨ia, n3, ic⟩, ⟨ra, rn, rc⟩⟩) w6) := HX0.out.next HB.out.2
  have hsz : w1.heap.size ≤ w6.heap.size := HB.out.2.size
  have cc := HX.out.cell 8 (.slice ia n3 ic) rfl
  go_wp2
  go_loopw [3, 5, 45] (fun v _ i wq => ∃ k : Nat, k ≤ n3 ∧ i = .int .i64 k ∧ BufAt w1.heap.size (b5 c ++ qsB (c.cell.take k)) v w1 wq) (fun _ _ i _ => n3 - (intOf i).toNat)
  case atStart => exact ⟨0, Nat.zero_le _, rfl, by simpa [qsB] using HB.out⟩
  case round =>
    obtain ⟨k, hk2, rfl, hbu⟩ := hrel
    obtain ⟨bc, hbc⟩ : ∃ bc, b5 c ++ qsB (c.cell.take k) = bc := ⟨_, rfl⟩
    rw [hbc] at hbu
    have HBC : Hid (b5 c ++ qsB (c.cell.take k) = bc) := hbc
    clear hbc
    obtain ⟨ak, cak, rfl⟩ := owned_shape hbu.1
    have hszr : w1.heap.size ≤ wr.heap.size := hbu.2.size
    by_cases hlt : k < n3
    · obtain ⟨q, hq⟩ := get_lt (l := c.cell) (k := k) (by rw [show c.cell.length = n3 from HC.out.cell.length]; exact hlt)
      obtain ⟨b, off, hao, hcs⟩ := (HC.out.below hbu.2).cell.cells (by show 0 < n3; omega)
      simp only at hao
      have HT : Hid (b5 c ++ qsB (c.cell.take (k + 1)) = bc ++ numsB (q4 q)) := by
        show _ = _
        rw [qsB_take hq, ← List.append_assoc, HBC.out]
      have hl1 : bc.length ≤ 42100 + 36 * k := by
        rw [← HBC.out]
        have h1 := qsB_len (l := c.cell.take k) (fun q hq => HR.out.csN q (List.mem_of_mem_take hq))
        have h2 := HLs.out
        simp at h1 ⊢; omega
      subst hao
      obtain ⟨c1, c2, c3, c4⟩ := hcs k q hq
      have HO : Hid (∀ z ∈ q4 q, okN z) := HR.out.csN q (List.mem_of_getElem? hq)
      have HBu : Hid (BufAt w1.heap.size bc (.slice ak bc.length cak) w1 wr) := hbu
      clear hcs hq hbu
      obtain ⟨o, x, y, z⟩ := q
      simp only at c1 c2 c3 c4
      go_wp2_with fail
      refine (laid_calls w1.heap.size bc ak cak _ 4 4 [o, x, y, z] _ ((HBu.out.1.alloc _).alloc _) (by simp; omega) (IntsB.new (ints_four _ _ _ _ _ _ (by simp)) (by rw [show wr.heap.size + 1 = (wr.alloc (.cells #[.int .i64 o, .int .i64 x, .int .i64 y, .int .i64 z] 38)).heap.size by simp]; exact heap_alloc_new _ _)) HO.out (by simp; omega)).mono ?_
      rintro e w2' ⟨v, rfl, hb⟩
      have HB2 : Hid (BufAt w1.heap.size (bc ++ numsB [o, x, y, z]) v w1 w2') := HBu.out.two (below_al2 hszr _ _) hb
      clear hb HBu
      go_wp2
      go_roundw
      case rel => exact ⟨k + 1, by omega, by go_num, by rw [HT.out]; exact HB2.out⟩
      case measure => simp [intOf]; omega
    · have HE : Hid (BufAt w1.heap.size bc (.slice ak bc.length cak) w1 wr) := hbu
      have HEq : Hid (bc = b6 c) := by
        show _ = _
        rw [← HBC.out, List.take_of_length_le (by rw [show c.cell.length = n3 from HC.out.cell.length]; omega)]; rfl
      clear hbu HBC
      have hbl : bc.length ≤ 42000 := by rw [HEq.out]; have := HLs.out; omega
      clear HB HX cc hsz
      obtain ⟨w7, hw7⟩ : ∃ w7, w7 = wr := ⟨_, rfl⟩
      have HW7 : Hid (wr = w7) := hw7.symm
      rw [← hw7] at HE
      clear hw7
      rw [HW7.out]
      have HX : Hid (Bx w (cdCells c ⟨⟨ta, tn, tc⟩, ⟨ka, kn, kc⟩, ⟨ia, n3, ic⟩, ⟨ra, rn, rc⟩⟩) w7) := HX0.out.next HE.out.2
      have hsz : w1.heap.size ≤ w7.heap.size := HE.out.2.size
      have c9 := HX.out.cell 9 (.slice ra rn rc) rfl
      go_wp2_with fail
      refine (laid_calls w1.heap.size bc ak cak _ 1 1 [(rn : Int)] _ (HE.out.1.alloc _) (by simp; omega) (IntsB.new (ints_one w7 _ _ rfl) (heap_alloc_new w7 _)) (okN_len (by omega)) (by omega)).mono ?_
      rintro e w8 ⟨v, rfl, hb⟩
      have HB : Hid (BufAt w1.heap.size (b7 c) v w1 w8) := by
        have h9 : b7 c = bc ++ numsB [(rn : Int)] := by rw [HEq.out, ← HKl.out.2.2]; rfl
        rw [h9]
        exact HE.out.two (below_one hsz _) hb
      clear hb HX c9 HE hsz HEq HW7 hbl
      obtain ⟨a9, c9', rfl⟩ := owned_shape HB.out.1
      have HX : Hid (Bx w (cdCells c ⟨⟨ta, tn, tc⟩, ⟨ka, kn, kc⟩, ⟨ia, n3, ic⟩, ⟨ra, rn, rc⟩⟩) w8) := HX0.out.next HB.out.2
      have hsz : w1.heap.size ≤ w8.heap.size := HB.out.2.size
      have cc := HX.out.cell 9 (.slice ra rn rc) rfl
      go_wp2
      go_loopw [3, 7, 70] (fun v _ i wq => ∃ k : Nat, k ≤ rn ∧ i = .int .i64 k ∧ BufAt w1.heap.size (b7 c ++ qsB (c.arrows.take k)) v w1 wq) (fun _ _ i _ => rn - (intOf i).toNat)
      case atStart => exact ⟨0, Nat.zero_le _, rfl, by simpa [qsB] using HB.out⟩
      case round =>
        obtain ⟨k, hk2, rfl, hbu⟩ := hrel
        obtain ⟨bc, hbc⟩ : ∃ bc, b7 c ++ qsB (c.arrows.take k) = bc := ⟨_, rfl⟩
        rw [hbc] at hbu
        have HBC : Hid (b7 c ++ qsB (c.arrows.take k) = bc) := hbc
        clear hbc
        obtain ⟨ak, cak, rfl⟩ := owned_shape hbu.1
        have hszr : w1.heap.size ≤ wr.heap.size := hbu.2.size
        by_cases hlt : k < rn
        · obtain ⟨q, hq⟩ := get_lt (l := c.arrows) (k := k) (by rw [show c.arrows.length = rn from HC.out.arrows.length]; exact hlt)
          obtain ⟨b, off, hao, hcs⟩ := (HC.out.below hbu.2).arrows.cells (by show 0 < rn; omega)
          simp only at hao
          have HT : Hid (b7 c ++ qsB (c.arrows.take (k + 1)) = bc ++ numsB (q4 q)) := by
            show _ = _
            rw [qsB_take hq, ← List.append_assoc, HBC.out]
          have hl1 : bc.length ≤ 42100 + 36 * k := by
            rw [← HBC.out]
            have h1 := qsB_len (l := c.arrows.take k) (fun q hq => HR.out.arN q (List.mem_of_mem_take hq))
            have h2 := HLs.out
            simp at h1 ⊢; omega
          subst hao
          obtain ⟨c1, c2, c3, c4⟩ := hcs k q hq
          have HO : Hid (∀ z ∈ q4 q, okN z) := HR.out.arN q (List.mem_of_getElem? hq)
          have HBu : Hid (BufAt w1.heap.size bc (.slice ak bc.length cak) w1 wr) := hbu
          clear hcs hq hbu
          obtain ⟨o, x, y, z⟩ := q
          simp only at c1 c2 c3 c4
          go_wp2_with fail
          refine (laid_calls w1.heap.size bc ak cak _ 4 4 [o, x, y, z] _ ((HBu.out.1.alloc _).alloc _) (by simp; omega) (IntsB.new (ints_four _ _ _ _ _ _ (by simp)) (by rw [show wr.heap.size + 1 = (wr.alloc (.cells #[.int .i64 o, .int .i64 x, .int .i64 y, .int .i64 z] 40)).heap.size by simp]; exact heap_alloc_new _ _)) HO.out (by simp; omega)).mono ?_
          rintro e w2' ⟨v, rfl, hb⟩
          have HB2 : Hid (BufAt w1.heap.size (bc ++ numsB [o, x, y, z]) v w1 w2') := HBu.out.two (below_al2 hszr _ _) hb
          clear hb HBu
          go_wp2
          go_roundw
          case rel => exact ⟨k + 1, by omega, by go_num, by rw [HT.out]; exact HB2.out⟩
          case measure => simp [intOf]; omega
        · have HE : Hid (BufAt w1.heap.size bc (.slice ak bc.length cak) w1 wr) := hbu
          have HEq : Hid (bc = bodyB c) := by
            show _ = _
            rw [← HBC.out, List.take_of_length_le (by rw [show c.arrows.length = rn from HC.out.arrows.length]; omega)]; rfl
          clear hbu HBC
          have HF : Hid (wr.ownsRow w.heap.size 5 1 (.slice ak bc.length cak) (bodyB c).length (byteVals (bodyB c)) ∧ Below w.heap.size w wr) := by
            refine ⟨?_, HX0.out.low.trans (HE.out.2.mono (by omega))⟩
            rw [← HEq.out]
            exact owned_mono HE.out.1 (by omega)
          go_wp2
          go_ret
          exact ⟨_, rfl, HF.out.1, HF.out.2⟩

end Go.Proofs.YtignpgoicoojiaaDoor
