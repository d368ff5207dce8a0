/-
  The walk of the document's Encode.
-/
import Derived.Test.YtignpgoicoojiaaDoorWrI
namespace Go.Proofs.YtignpgoicoojiaaDoor
open Go.RowKit

theorem own_four (c : Cd) : 1 ≤ (b1 c).length := by
  have := digs_pos (dbl c.letters)
  simp only [b1, numsB, List.flatMap_cons, List.length_append, numB]; omega
def m1 (c : Cd) : List UInt8 := markB ++ b1 c
def m2 (c : Cd) : List UInt8 := markB ++ b2 c
def m3 (c : Cd) : List UInt8 := markB ++ b3 c
def m4 (c : Cd) : List UInt8 := markB ++ b4 c
def m5 (c : Cd) : List UInt8 := markB ++ b5 c
def m6 (c : Cd) : List UInt8 := markB ++ b6 c
def m7 (c : Cd) : List UInt8 := markB ++ b7 c
def m8 (c : Cd) : List UInt8 := markB ++ bodyB c
theorem m1_len (c : Cd) : (m1 c).length = 4 + (b1 c).length := by simp [m1, markB]; omega
theorem m2_len (c : Cd) : (m2 c).length = 4 + (b2 c).length := by simp [m2, markB]; omega
theorem m3_len (c : Cd) : (m3 c).length = 4 + (b3 c).length := by simp [m3, markB]; omega
theorem m4_len (c : Cd) : (m4 c).length = 4 + (b4 c).length := by simp [m4, markB]; omega
theorem m5_len (c : Cd) : (m5 c).length = 4 + (b5 c).length := by simp [m5, markB]; omega
theorem m6_len (c : Cd) : (m6 c).length = 4 + (b6 c).length := by simp [m6, markB]; omega
theorem m7_len (c : Cd) : (m7 c).length = 4 + (b7 c).length := by simp [m7, markB]; omega
theorem m8_len (c : Cd) : (m8 c).length = 4 + (bodyB c).length := by simp [m8, markB]; omega
theorem b1_pos (c : Cd) : 4 < (markB ++ b1 c).length := by
  have := own_four c
  simp [markB]; omega

set_option maxRecDepth 20000 in
set_option maxHeartbeats 4000000 in
theorem refEncode_calls (c : Cd) (s : Ls) (w : World) (h : CdAt w c s) :
    Calls Tryd.prog 15 #[.agg (cdCells c s)] w fun e w' => TextPost (encA c) w e w' := by
  obtain ⟨⟨ta, tn, tc⟩, ⟨ka, kn, kc⟩, ⟨ia, n3, ic⟩, ⟨ra, rn, rc⟩⟩ := s
  have HC0 : Hid (CdAt w c ⟨⟨ta, tn, tc⟩, ⟨ka, kn, kc⟩, ⟨ia, n3, ic⟩, ⟨ra, rn, rc⟩⟩) := h
  clear h
  obtain ⟨r, hr⟩ : ∃ r, rightB c = r := ⟨_, rfl⟩
  have HRR : Hid (rightB c = r) := hr
  clear hr
  rw [show cdCells c ⟨⟨ta, tn, tc⟩, ⟨ka, kn, kc⟩, ⟨ia, n3, ic⟩, ⟨ra, rn, rc⟩⟩ = #[.int .i64 c.letters, .int .i64 c.planes, .int .i64 c.regs, .int .i64 c.lo, .int .i64 c.hi, .int .i64 c.most, .slice ta tn tc, .slice ka kn kc, .slice ia n3 ic, .slice ra rn rc] from rfl]
  go_enter Tryd.func15, Tryd.ntmps15
  go_wp2_with fail
  refine (rightR_calls c ⟨⟨ta, tn, tc⟩, ⟨ka, kn, kc⟩, ⟨ia, n3, ic⟩, ⟨ra, rn, rc⟩⟩ _ (HC0.out.below (below_new _))).mono ?_
  rintro e w1 ⟨rfl, hb⟩
  rw [HRR.out]
  have HX0 : Hid (Bx w (cdCells c ⟨⟨ta, tn, tc⟩, ⟨ka, kn, kc⟩, ⟨ia, n3, ic⟩, ⟨ra, rn, rc⟩⟩) w1) := (Bx.start w _).next hb
  clear hb
  cases r
  · have HE : Hid (encA c = ([], 150)) := by show _ = _; rw [encA, if_neg (by rw [HRR.out]; decide)]
    go_wp2
    go_ret2
    exact text_post HE.out rfl HX0.out.low
  have HE0 : Hid (encA c = (textB c, 0)) := by show _ = _; rw [encA, if_pos HRR.out]
  have HR : Hid (Rt c) := rt_of HRR.out
  have HC : Hid (CdAt w1 c ⟨⟨ta, tn, tc⟩, ⟨ka, kn, kc⟩, ⟨ia, n3, ic⟩, ⟨ra, rn, rc⟩⟩) := HC0.out.below HX0.out.low
  have HLs : Hid ((b1 c).length ≤ 100 ∧ (b2 c).length ≤ 4000 ∧ (b3 c).length ≤ 4100 ∧ (b4 c).length ≤ 5100 ∧ (b5 c).length ≤ 5200 ∧ (b6 c).length ≤ 42000 ∧ (b7 c).length ≤ 42100 ∧ (bodyB c).length ≤ 50000) := HR.out.lens
  have ht : tn ≤ 400 := by rw [← show c.table.length = tn from HC.out.table.length]; exact HR.out.tl
  have hk : kn ≤ 100 := by rw [← show c.consts.length = kn from HC.out.consts.length]; exact HR.out.kl
  have hc : n3 ≤ 1000 := by rw [← show c.cell.length = n3 from HC.out.cell.length]; exact HR.out.cl
  have ha : rn ≤ 160 := by rw [← show c.arrows.length = rn from HC.out.arrows.length]; exact HR.out.al
  have HKl : Hid (c.consts.length = kn ∧ c.cell.length = n3 ∧ c.arrows.length = rn) := ⟨HC.out.consts.length, HC.out.cell.length, HC.out.arrows.length⟩
  clear HC0 HRR
  have hB1 : w.heap.size ≤ w1.heap.size := HX0.out.low.size
  have kcv := fun (W : World) (C : Array Value) (n c : Nat) => Lib.run_convert_bytes_const (P := Tryd.prog) W 42 5 C n c Tryd.underlying42 Tryd.underlying5
  have HXm : Hid (Bx w (cdCells c ⟨⟨ta, tn, tc⟩, ⟨ka, kn, kc⟩, ⟨ia, n3, ic⟩, ⟨ra, rn, rc⟩⟩) (w1.alloc (.cells #[.int .u8 72, .int .u8 76, .int .u8 88, .int .u8 49] 5 (4, 5)))) := HX0.out.alloc _
  have c0 := HXm.out.cell 0 (.int .i64 c.letters) rfl
  have c1 := HXm.out.cell 1 (.int .i64 c.planes) rfl
  have c2 := HXm.out.cell 2 (.int .i64 c.regs) rfl
  have c3 := HXm.out.cell 3 (.int .i64 c.lo) rfl
  have c4 := HXm.out.cell 4 (.int .i64 c.hi) rfl
  have c5 := HXm.out.cell 5 (.int .i64 c.most) rfl
  clear HXm
  go_wp2_with fail
  refine (refNumbersG w1.heap.size markB (some ⟨w1.heap.size, 0, none⟩) 4 (some ⟨w1.heap.size + 1, 0, none⟩) 6 6 [c.letters, c.planes, c.regs, c.lo, c.hi, c.most] _ ((mark_own w1 _ (Nat.le_refl _)).alloc _) (by simp; omega) (IntsB.new (ints_six _ _ _ _ _ _ _ _ (by simp)) (by rw [show w1.heap.size + 1 = (w1.alloc (.cells markC 5 (4, 5))).heap.size by simp]; exact heap_alloc_new _ _)) HR.out.six (by decide)).mono ?_
  rintro e w2 ⟨v, rfl, hb⟩
  have HB : Hid (BufAt w1.heap.size (m1 c) v w1 w2) := by
    have hb' := BufC.own hb (b1_pos c)
    exact ⟨hb'.1, (below_al2 (Nat.le_refl _) _ _).trans hb'.2⟩
  clear hb c0 c1 c2 c3 c4 c5 kcv
  obtain ⟨aw3, cw3, rfl⟩ := owned_shape HB.out.1
  have HX : Hid (Bx w (cdCells c ⟨⟨ta, tn, tc⟩, ⟨ka, kn, kc⟩, ⟨ia, n3, ic⟩, ⟨ra, rn, rc⟩⟩) w2) := HX0.out.next HB.out.2
  have hsz : w1.heap.size ≤ w2.heap.size := HB.out.2.size
  have hpl : (m1 c).length ≤ 50000 := by have := HLs.out; rw [m1_len]; omega
  have c6 := HX.out.cell 6 (.slice ta tn tc) rfl
  go_wp2_with fail
  refine (refNumbers_calls w1.heap.size (m1 c) aw3 cw3 ta tn tc c.table _ HB.out.1 hsz (IntsB.of (HC.out.below HB.out.2).table HC.out.table (Nat.le_refl _)) HR.out.tb (by omega)).mono ?_
  rintro e w3 ⟨v, rfl, hb⟩
  have HB2 : Hid (BufAt w1.heap.size (m2 c) v w1 w3) := by
    have h9 : m2 c = m1 c ++ numsB c.table := (List.append_assoc _ _ _).symm
    rw [h9]
    exact HB.out.two (Below.refl _ _) hb
  clear hb HB HX c6 hpl
  have HB : Hid _ := HB2
  clear HB2
  obtain ⟨aw4, cw4, rfl⟩ := owned_shape HB.out.1
  have HX : Hid (Bx w (cdCells c ⟨⟨ta, tn, tc⟩, ⟨ka, kn, kc⟩, ⟨ia, n3, ic⟩, ⟨ra, rn, rc⟩⟩) w3) := HX0.out.next HB.out.2
  have hsz : w1.heap.size ≤ w3.heap.size := HB.out.2.size
  have hpl : (m2 c).length ≤ 50000 := by have := HLs.out; rw [m2_len]; omega
  have c7 := HX.out.cell 7 (.slice ka kn kc) rfl
  go_wp2_with fail
  refine (refNumber_loop w1.heap.size (m2 c) aw4 cw4 (kn : Int) _ HB.out.1 hsz (okN_len (n := kn) (by omega) _ (by simp)) (by omega)).mono ?_
  rintro e w4 ⟨v, rfl, hb, _⟩
  have HB3 : Hid (BufAt w1.heap.size (m3 c) v w1 w4) := by
    have h9 : m3 c = m2 c ++ numB (kn : Int) := by rw [← HKl.out.1]; show markB ++ (b2 c ++ _) = (markB ++ b2 c) ++ _; simp [numsB]
    rw [h9]
    exact HB.out.two (Below.refl _ _) hb
  clear hb HB HX c7 hpl
  have HB : Hid _ := HB3
  clear HB3
  obtain ⟨aw5, cw5, rfl⟩ := owned_shape HB.out.1
  have HX : Hid (Bx w (cdCells c ⟨⟨ta, tn, tc⟩, ⟨ka, kn, kc⟩, ⟨ia, n3, ic⟩, ⟨ra, rn, rc⟩⟩) w4) := HX0.out.next HB.out.2
  have hsz : w1.heap.size ≤ w4.heap.size := HB.out.2.size
  have hpl : (m3 c).length ≤ 50000 := by have := HLs.out; rw [m3_len]; omega
  have c7 := HX.out.cell 7 (.slice ka kn kc) rfl
  go_wp2_with fail
  refine (refNumbers_calls w1.heap.size (m3 c) aw5 cw5 ka kn kc c.consts _ HB.out.1 hsz (IntsB.of (HC.out.below HB.out.2).consts HC.out.consts (Nat.le_refl _)) HR.out.ks (by omega)).mono ?_
  rintro e w5 ⟨v, rfl, hb⟩
  have HB2 : Hid (BufAt w1.heap.size (m4 c) v w1 w5) := by
    have h9 : m4 c = m3 c ++ numsB c.consts := (List.append_assoc _ _ _).symm
    rw [h9]
    exact HB.out.two (Below.refl _ _) hb
  clear hb HB HX c7 hpl
  have HB : Hid _ := HB2
  clear HB2
  obtain ⟨aw6, cw6, rfl⟩ := owned_shape HB.out.1
  have HX : Hid (Bx w (cdCells c ⟨⟨ta, tn, tc⟩, ⟨ka, kn, kc⟩, ⟨ia, n3, ic⟩, ⟨ra, rn, rc⟩⟩) w5) := HX0.out.next HB.out.2
  have hsz : w1.heap.size ≤ w5.heap.size := HB.out.2.size
  have hpl : (m4 c).length ≤ 50000 := by have := HLs.out; rw [m4_len]; omega
  have c8 := HX.out.cell 8 (.slice ia n3 ic) rfl
  go_wp2_with fail
  refine (refNumber_loop w1.heap.size (m4 c) aw6 cw6 (n3 : Int) _ HB.out.1 hsz (okN_len (n := n3) (by omega) _ (by simp)) (by omega)).mono ?_
  rintro e w6 ⟨v, rfl, hb, _⟩
  have HB3 : Hid (BufAt w1.heap.size (m5 c) v w1 w6) := by
    have h9 : m5 c = m4 c ++ numB (n3 : Int) := by rw [← HKl.out.2.1]; show markB ++ (b4 c ++ _) = (markB ++ b4 c) ++ _; simp [numsB]
    rw [h9]
    exact HB.out.two (Below.refl _ _) hb
  clear hb HB HX c8 hpl
  have HB : Hid _ := HB3
  clear HB3
  obtain ⟨a9, c9', rfl⟩ := owned_shape HB.out.1
  have hsz : w1.heap.size ≤ w6.heap.size := HB.out.2.size
  go_wp2
  go_loopw [5, 6, 7] (fun v i _ wq => ∃ k : Nat, k ≤ n3 ∧ i = .int .i64 k ∧ BufAt w1.heap.size (m5 c ++ qsB (c.cell.take k)) v w1 wq) (fun _ i _ _ => n3 - (intOf i).toNat)
  case atStart => exact ⟨0, Nat.zero_le _, rfl, by simpa [qsB] using HB.out⟩
  case round =>
    obtain ⟨k, hk2, rfl, hbu⟩ := hrel
    obtain ⟨bc, hbc⟩ : ∃ bc, m5 c ++ qsB (c.cell.take k) = bc := ⟨_, rfl⟩
    rw [hbc] at hbu
    have HBC : Hid (m5 c ++ qsB (c.cell.take k) = bc) := hbc
    clear hbc
    obtain ⟨ak, cak, rfl⟩ := owned_shape hbu.1
    have hszr : w1.heap.size ≤ wr.heap.size := hbu.2.size
    have HX : Hid (Bx w (cdCells c ⟨⟨ta, tn, tc⟩, ⟨ka, kn, kc⟩, ⟨ia, n3, ic⟩, ⟨ra, rn, rc⟩⟩) wr) := HX0.out.next hbu.2
    have cc := HX.out.cell 8 (.slice ia n3 ic) rfl
    by_cases hlt : k < n3
    · obtain ⟨q, hq⟩ := get_lt (l := c.cell) (k := k) (by rw [show c.cell.length = n3 from HC.out.cell.length]; exact hlt)
      obtain ⟨b, off, hao, hcs⟩ := (HC.out.below hbu.2).cell.cells (by show 0 < n3; omega)
      simp only at hao
      have HT : Hid (m5 c ++ qsB (c.cell.take (k + 1)) = bc ++ numsB (q4 q)) := by
        show _ = _
        rw [qsB_take hq, ← List.append_assoc, HBC.out]
      have hl1 : bc.length ≤ 42200 + 36 * k := by
        rw [← HBC.out, List.length_append, m5_len]
        have h1 := qsB_len (l := c.cell.take k) (fun q hq => HR.out.csN q (List.mem_of_mem_take hq))
        have h2 := HLs.out
        simp at h1; omega
      subst hao
      obtain ⟨c1, c2, c3, c4⟩ := hcs k q hq
      have HO : Hid (∀ z ∈ q4 q, okN z) := HR.out.csN q (List.mem_of_getElem? hq)
      have HBu : Hid (BufAt w1.heap.size bc (.slice ak bc.length cak) w1 wr) := hbu
      clear hcs hq hbu
      obtain ⟨o, x, y, z⟩ := q
      simp only at c1 c2 c3 c4
      go_wp2_with fail
      refine (refNumbers_calls w1.heap.size bc ak cak _ 4 4 [o, x, y, z] _ ((HBu.out.1.alloc _).alloc _) (by simp; omega) (IntsB.new (ints_four _ _ _ _ _ _ (by simp)) (by rw [show wr.heap.size + 1 = (wr.alloc (.cells #[.int .i64 o, .int .i64 x, .int .i64 y, .int .i64 z] 38)).heap.size by simp]; exact heap_alloc_new _ _)) HO.out (by omega)).mono ?_
      rintro e w2' ⟨v, rfl, hb⟩
      have HB2 : Hid (BufAt w1.heap.size (bc ++ numsB [o, x, y, z]) v w1 w2') := HBu.out.two (below_al2 hszr _ _) hb
      clear hb HBu cc HX
      go_wp2
      go_roundw
      case rel => exact ⟨k + 1, by omega, by go_num, by rw [HT.out]; exact HB2.out⟩
      case measure => simp [intOf]; omega
    · have HE : Hid (BufAt w1.heap.size bc (.slice ak bc.length cak) w1 wr) := hbu
      have HEq : Hid (bc = m6 c) := by
        show _ = _
        rw [← HBC.out, List.take_of_length_le (by rw [show c.cell.length = n3 from HC.out.cell.length]; omega)]; exact List.append_assoc _ _ _
      clear hbu HBC HB hsz
      have hbl : bc.length ≤ 42100 := by rw [HEq.out, m6_len]; have := HLs.out; omega
      have c9 := HX.out.cell 9 (.slice ra rn rc) rfl
      go_wp2_with fail
      refine (refNumber_loop w1.heap.size bc ak cak (rn : Int) _ HE.out.1 hszr (okN_len (n := rn) (by omega) _ (by simp)) (by omega)).mono ?_
      rintro e w8 ⟨v, rfl, hb, _⟩
      have HB : Hid (BufAt w1.heap.size (m7 c) v w1 w8) := by
        have h9 : m7 c = bc ++ numB (rn : Int) := by rw [HEq.out, ← HKl.out.2.2]; show markB ++ (b6 c ++ _) = (markB ++ b6 c) ++ _; simp [numsB]
        rw [h9]
        exact HE.out.two (Below.refl _ _) hb
      clear hb HX c9 HE HEq hbl cc
      obtain ⟨a9, c9', rfl⟩ := owned_shape HB.out.1
      have hsz : w1.heap.size ≤ w8.heap.size := HB.out.2.size
      go_wp2
      go_loopw [5, 8, 9] (fun v i _ wq => ∃ k : Nat, k ≤ rn ∧ i = .int .i64 k ∧ BufAt w1.heap.size (m7 c ++ qsB (c.arrows.take k)) v w1 wq) (fun _ i _ _ => rn - (intOf i).toNat)
      case atStart => exact ⟨0, Nat.zero_le _, rfl, by simpa [qsB] using HB.out⟩
      case round =>
        obtain ⟨k, hk2, rfl, hbu⟩ := hrel
        obtain ⟨bc, hbc⟩ : ∃ bc, m7 c ++ qsB (c.arrows.take k) = bc := ⟨_, rfl⟩
        rw [hbc] at hbu
        have HBC : Hid (m7 c ++ qsB (c.arrows.take k) = bc) := hbc
        clear hbc
        obtain ⟨ak, cak, rfl⟩ := owned_shape hbu.1
        have hszr : w1.heap.size ≤ wr.heap.size := hbu.2.size
        have HX : Hid (Bx w (cdCells c ⟨⟨ta, tn, tc⟩, ⟨ka, kn, kc⟩, ⟨ia, n3, ic⟩, ⟨ra, rn, rc⟩⟩) wr) := HX0.out.next hbu.2
        have cc := HX.out.cell 9 (.slice ra rn rc) rfl
        by_cases hlt : k < rn
        · obtain ⟨q, hq⟩ := get_lt (l := c.arrows) (k := k) (by rw [show c.arrows.length = rn from HC.out.arrows.length]; exact hlt)
          obtain ⟨b, off, hao, hcs⟩ := (HC.out.below hbu.2).arrows.cells (by show 0 < rn; omega)
          simp only at hao
          have HT : Hid (m7 c ++ qsB (c.arrows.take (k + 1)) = bc ++ numsB (q4 q)) := by
            show _ = _
            rw [qsB_take hq, ← List.append_assoc, HBC.out]
          have hl1 : bc.length ≤ 42200 + 36 * k := by
            rw [← HBC.out, List.length_append, m7_len]
            have h1 := qsB_len (l := c.arrows.take k) (fun q hq => HR.out.arN q (List.mem_of_mem_take hq))
            have h2 := HLs.out
            simp at h1; omega
          subst hao
          obtain ⟨c1, c2, c3, c4⟩ := hcs k q hq
          have HO : Hid (∀ z ∈ q4 q, okN z) := HR.out.arN q (List.mem_of_getElem? hq)
          have HBu : Hid (BufAt w1.heap.size bc (.slice ak bc.length cak) w1 wr) := hbu
          clear hcs hq hbu
          obtain ⟨o, x, y, z⟩ := q
          simp only at c1 c2 c3 c4
          go_wp2_with fail
          refine (refNumbers_calls w1.heap.size bc ak cak _ 4 4 [o, x, y, z] _ ((HBu.out.1.alloc _).alloc _) (by simp; omega) (IntsB.new (ints_four _ _ _ _ _ _ (by simp)) (by rw [show wr.heap.size + 1 = (wr.alloc (.cells #[.int .i64 o, .int .i64 x, .int .i64 y, .int .i64 z] 40)).heap.size by simp]; exact heap_alloc_new _ _)) HO.out (by omega)).mono ?_
          rintro e w2' ⟨v, rfl, hb⟩
          have HB2 : Hid (BufAt w1.heap.size (bc ++ numsB [o, x, y, z]) v w1 w2') := HBu.out.two (below_al2 hszr _ _) hb
          clear hb HBu cc HX
          go_wp2
          go_roundw
          case rel => exact ⟨k + 1, by omega, by go_num, by rw [HT.out]; exact HB2.out⟩
          case measure => simp [intOf]; omega
        · have HE : Hid (BufAt w1.heap.size bc (.slice ak bc.length cak) w1 wr) := hbu
          have HEq : Hid (bc = m8 c) := by
            show _ = _
            rw [← HBC.out, List.take_of_length_le (by rw [show c.arrows.length = rn from HC.out.arrows.length]; omega)]; exact List.append_assoc _ _ _
          clear hbu HBC HB hsz
          have hbl : bc.length ≤ 50004 := by rw [HEq.out, m8_len]; have := HLs.out; omega
          have hconv := owned_text HE.out.1
          obtain ⟨u, hu⟩ : ∃ u : ByteArray, (⟨bc.toArray⟩ : ByteArray) = u := ⟨_, rfl⟩
          rw [hu] at hconv
          have hul : u.data.toList = markB ++ bodyB c := by rw [← hu]; show bc = m8 c; exact HEq.out
          have hus : u.size ≤ 50004 := by rw [← size_toList, hul, ← show bc = markB ++ bodyB c from HEq.out]; exact hbl
          have HU : Hid (u.data.toList = markB ++ bodyB c) := hul
          have HL2 : Hid (Below w.heap.size w wr) := HX.out.low
          clear hu hul HE HX hbl
          go_wp2_with fail
          refine (refCheck_calls u _ (by unfold maxLen; omega)).mono ?_
          rintro e w3 ⟨k9, rfl, hkl, hb⟩
          have HL3 : Hid (Below w.heap.size w w3) := HL2.out.trans (hb.mono HL2.out.size)
          have hks : k9.size = 4 := by rw [← size_toList, hkl]; rfl
          have HK : Hid (k9.data.toList = checkB u.data.toList) := hkl
          have hcat2 : ∀ W, (Op.stringOp .add u k9).run Tryd.prog W = .ok (.string (u ++ k9)) W := fun W => run_string_add_sum W _ _ (by omega)
          clear hb hkl hks
          go_wp2
          go_ret2
          exact text_post HE0.out (by rw [ba_append, HK.out, HU.out]; rfl) HL3.out
end Go.Proofs.YtignpgoicoojiaaDoor
