/-
  The walk of whole.
-/
import Derived.Test.YtignpgoicoojiaaDoorLnB
namespace Go.Proofs.YtignpgoicoojiaaDoor
open Go.RowKit

theorem lent_cells {c : Cd} {g1 g2 g3 g4 tn kn n3 rn : Nat} (h : c.table.length = tn ∧ c.consts.length = kn ∧ c.cell.length = n3 ∧ c.arrows.length = rn) : cdCells c (lentS c g1 g2 g3 g4) = #[.int .i64 c.letters, .int .i64 c.planes, .int .i64 c.regs, .int .i64 c.lo, .int .i64 c.hi, .int .i64 c.most, .slice (some ⟨g1, 0, none⟩) tn (tn + 2), .slice (some ⟨g2, 0, none⟩) kn (kn + 2), .slice (some ⟨g3, 0, none⟩) n3 (n3 + 2), .slice (some ⟨g4, 0, none⟩) rn (rn + 2)] := by
  obtain ⟨l1, l2, l3, l4⟩ := h
  simp only [cdCells, lentS, l1, l2, l3, l4]
theorem LentAt.marks {W : World} {c : Cd} {g1 g2 g3 g4 tn kn n3 rn : Nat} (h : LentAt W c g1 g2 g3 g4) (hl : c.table.length = tn ∧ c.consts.length = kn ∧ c.cell.length = n3 ∧ c.arrows.length = rn) :
    W.cell? ⟨g1, tn, none⟩ = some (.int .i64 77) ∧ W.cell? ⟨g2, kn, none⟩ = some (.int .i64 78) ∧ W.cell? ⟨g3, n3 * 4, none⟩ = some (.int .i64 79) ∧ W.cell? ⟨g4, rn * 4 + 1, none⟩ = some (.int .i64 80) := by
  obtain ⟨l1, l2, l3, l4⟩ := hl
  refine ⟨cell_block h.t _ _ ?_, cell_block h.k _ _ ?_, cell_block h.i _ _ ?_, cell_block h.r _ _ ?_⟩
  · rw [List.getElem?_toArray]
    exact get_end (n := tn) (by rw [intVals_length, l1]) 0 _ _ rfl
  · rw [List.getElem?_toArray]
    exact get_end (n := kn) (by rw [intVals_length, l2]) 0 _ _ rfl
  · rw [List.getElem?_toArray]
    exact get_end (n := n3 * 4) (by rw [qdVals_length, l3]) 0 _ _ rfl
  · rw [List.getElem?_toArray]
    exact get_end (n := rn * 4) (by rw [qdVals_length, l4]) 1 _ _ rfl

set_option maxRecDepth 20000 in
set_option maxHeartbeats 4000000 in
theorem whole_calls (c : Cd) (s : Ls) (g1 g2 g3 g4 : Nat) (w : World) (h : CdAt w c s) (hL : LentAt w c g1 g2 g3 g4) (hn : s.t.n ≤ 2147483647 ∧ s.k.n ≤ 2147483647 ∧ s.i.n ≤ 2147483647 ∧ s.r.n ≤ 2147483647) :
    Calls Tryd.prog 16 #[.agg (cdCells c (lentS c g1 g2 g3 g4)), .agg (cdCells c s)] w fun e w' => e = .returned (.bool true) ∧ Below w.heap.size w w' := by
  obtain ⟨⟨ta, tn, tc⟩, ⟨ka, kn, kc⟩, ⟨ia, n3, ic⟩, ⟨ra, rn, rc⟩⟩ := s
  obtain ⟨b1, b2, b3, b4⟩ := hn
  simp only at b1 b2 b3 b4
  have HLn : Hid (c.table.length = tn ∧ c.consts.length = kn ∧ c.cell.length = n3 ∧ c.arrows.length = rn) := ⟨h.table.length, h.consts.length, h.cell.length, h.arrows.length⟩
  have HC : Hid (CdAt w c ⟨⟨ta, tn, tc⟩, ⟨ka, kn, kc⟩, ⟨ia, n3, ic⟩, ⟨ra, rn, rc⟩⟩) := h
  have HO : Hid (CdAt w c (lentS c g1 g2 g3 g4)) := hL.at' (by rw [HLn.out.1]; unfold maxLen; omega) (by rw [HLn.out.2.1]; unfold maxLen; omega) (by rw [HLn.out.2.2.1]; unfold maxLen; omega) (by rw [HLn.out.2.2.2]; unfold maxLen; omega)
  have HL : Hid (LentAt w c g1 g2 g3 g4) := hL
  clear h hL
  have HE : Hid (cdCells c (lentS c g1 g2 g3 g4) = #[.int .i64 c.letters, .int .i64 c.planes, .int .i64 c.regs, .int .i64 c.lo, .int .i64 c.hi, .int .i64 c.most, .slice (some ⟨g1, 0, none⟩) tn (tn + 2), .slice (some ⟨g2, 0, none⟩) kn (kn + 2), .slice (some ⟨g3, 0, none⟩) n3 (n3 + 2), .slice (some ⟨g4, 0, none⟩) rn (rn + 2)]) := lent_cells HLn.out
  have HSm : Hid (∀ W, CdAt W c (lentS c g1 g2 g3 g4) → CdAt W c ⟨⟨ta, tn, tc⟩, ⟨ka, kn, kc⟩, ⟨ia, n3, ic⟩, ⟨ra, rn, rc⟩⟩ → Calls Tryd.prog 19 #[.agg #[.int .i64 c.letters, .int .i64 c.planes, .int .i64 c.regs, .int .i64 c.lo, .int .i64 c.hi, .int .i64 c.most, .slice (some ⟨g1, 0, none⟩) tn (tn + 2), .slice (some ⟨g2, 0, none⟩) kn (kn + 2), .slice (some ⟨g3, 0, none⟩) n3 (n3 + 2), .slice (some ⟨g4, 0, none⟩) rn (rn + 2)], .agg #[.int .i64 c.letters, .int .i64 c.planes, .int .i64 c.regs, .int .i64 c.lo, .int .i64 c.hi, .int .i64 c.most, .slice ta tn tc, .slice ka kn kc, .slice ia n3 ic, .slice ra rn rc]] W fun e w' => e = .returned (.bool true) ∧ Below W.heap.size W w') := fun W k1 k2 => by
    have := same_calls c c (lentS c g1 g2 g3 g4) ⟨⟨ta, tn, tc⟩, ⟨ka, kn, kc⟩, ⟨ia, n3, ic⟩, ⟨ra, rn, rc⟩⟩ W k1 k2
    rw [HE.out, sameB_iff.2 rfl] at this
    exact this
  have HX0 : Hid (B2 w #[.int .i64 c.letters, .int .i64 c.planes, .int .i64 c.regs, .int .i64 c.lo, .int .i64 c.hi, .int .i64 c.most, .slice (some ⟨g1, 0, none⟩) tn (tn + 2), .slice (some ⟨g2, 0, none⟩) kn (kn + 2), .slice (some ⟨g3, 0, none⟩) n3 (n3 + 2), .slice (some ⟨g4, 0, none⟩) rn (rn + 2)] #[.int .i64 c.letters, .int .i64 c.planes, .int .i64 c.regs, .int .i64 c.lo, .int .i64 c.hi, .int .i64 c.most, .slice ta tn tc, .slice ka kn kc, .slice ia n3 ic, .slice ra rn rc] ((w.alloc (.cells #[.int .i64 c.letters, .int .i64 c.planes, .int .i64 c.regs, .int .i64 c.lo, .int .i64 c.hi, .int .i64 c.most, .slice (some ⟨g1, 0, none⟩) tn (tn + 2), .slice (some ⟨g2, 0, none⟩) kn (kn + 2), .slice (some ⟨g3, 0, none⟩) n3 (n3 + 2), .slice (some ⟨g4, 0, none⟩) rn (rn + 2)] 26)).alloc (.cells #[.int .i64 c.letters, .int .i64 c.planes, .int .i64 c.regs, .int .i64 c.lo, .int .i64 c.hi, .int .i64 c.most, .slice ta tn tc, .slice ka kn kc, .slice ia n3 ic, .slice ra rn rc] 26))) := B2.start w _ _
  rw [HE.out, show cdCells c ⟨⟨ta, tn, tc⟩, ⟨ka, kn, kc⟩, ⟨ia, n3, ic⟩, ⟨ra, rn, rc⟩⟩ = #[.int .i64 c.letters, .int .i64 c.planes, .int .i64 c.regs, .int .i64 c.lo, .int .i64 c.hi, .int .i64 c.most, .slice ta tn tc, .slice ka kn kc, .slice ia n3 ic, .slice ra rn rc] from rfl]
  go_enter Tryd.func16, Tryd.ntmps16
  go_wp2_with fail
  refine (HSm.out _ (HO.out.below HX0.out.low) (HC.out.below HX0.out.low)).mono ?_
  rintro e w1 ⟨rfl, hb⟩
  have HX1 : Hid (B2 w #[.int .i64 c.letters, .int .i64 c.planes, .int .i64 c.regs, .int .i64 c.lo, .int .i64 c.hi, .int .i64 c.most, .slice (some ⟨g1, 0, none⟩) tn (tn + 2), .slice (some ⟨g2, 0, none⟩) kn (kn + 2), .slice (some ⟨g3, 0, none⟩) n3 (n3 + 2), .slice (some ⟨g4, 0, none⟩) rn (rn + 2)] #[.int .i64 c.letters, .int .i64 c.planes, .int .i64 c.regs, .int .i64 c.lo, .int .i64 c.hi, .int .i64 c.most, .slice ta tn tc, .slice ka kn kc, .slice ia n3 ic, .slice ra rn rc] w1) := HX0.out.next hb
  clear hb HX0 HSm
  have c6 := HX1.out.c 6 (.slice (some ⟨g1, 0, none⟩) tn (tn + 2)) rfl
  have d6 := HX1.out.d 6 (.slice ta tn tc) rfl
  have c7 := HX1.out.c 7 (.slice (some ⟨g2, 0, none⟩) kn (kn + 2)) rfl
  have d7 := HX1.out.d 7 (.slice ka kn kc) rfl
  have c8 := HX1.out.c 8 (.slice (some ⟨g3, 0, none⟩) n3 (n3 + 2)) rfl
  have d8 := HX1.out.d 8 (.slice ia n3 ic) rfl
  have c9 := HX1.out.c 9 (.slice (some ⟨g4, 0, none⟩) rn (rn + 2)) rfl
  have d9 := HX1.out.d 9 (.slice ra rn rc) rfl
  obtain ⟨m1', m2', m3', m4'⟩ := (HL.out.below HX1.out.low).marks HLn.out
  go_wp2
  go_ret
  exact ⟨rfl, HX1.out.low⟩

end Go.Proofs.YtignpgoicoojiaaDoor
