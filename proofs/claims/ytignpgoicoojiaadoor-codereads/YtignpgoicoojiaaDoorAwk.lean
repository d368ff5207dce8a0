/-
  The walk of the statements' own awake.
-/
import Derived.Test.YtignpgoicoojiaaDoorLsu
import Derived.Test.YtignpgoicoojiaaDoorExa
import Derived.Test.YtignpgoicoojiaaDoorRdF
namespace Go.Proofs.YtignpgoicoojiaaDoor
open Go.RowKit

theorem below_alA {w W : World} (h : Below w.heap.size w W) (o : Obj) : Below w.heap.size w (W.alloc o) := h.alloc h.size o
def wrC : Cd := ⟨2, 0, 0, 0, 0, 0, [], [], [], []⟩
def awText : List UInt8 := textB exC
theorem ex_right : rightB exC = true := by decide
theorem wr_wrong : rightB wrC = false := by decide
theorem digs_s {m : Nat} (h : m < 128) : digs m = [UInt8.ofNat m] := digs_small h
theorem ex_body : bodyB exC = [4, 2, 2, 0, 0, 10, 2, 1, 1, 2, 2, 0, 6, 4, 0, 0, 6, 14, 0, 0, 0, 16, 0, 0, 6, 0] := by
  simp only [bodyB, exC, numsB, qsB, q4, List.flatMap_cons, List.flatMap_nil, List.length_cons, List.length_nil, numB, dbl]
  simp [digs_s]
theorem ex_len : (textB exC).length = 34 := by
  rw [textB, ex_body]; rfl
theorem ex_take : (textB exC).take 14 = [72, 76, 88, 49, 4, 2, 2, 0, 0, 10, 2, 1, 1, 2] := by
  rw [textB, ex_body]; rfl
theorem dec0 : Lib.itoa 0 = [48] := by
  rw [show (0 : Int) = ((0 : Nat) : Int) from rfl, Lib.itoa_nonneg, Lib.decDigits_one (by decide)]; rfl
theorem ex_list : listB exC.cell = [115, 116, 97, 114, 116, 32, 114, 48, 32, 99, 48, 32, 99, 111, 114, 110, 101, 114, 10, 107, 101, 101, 112, 32, 112, 48, 32, 114, 48, 10, 101, 110, 100, 32, 112, 48, 32, 99, 48, 32, 99, 111, 114, 110, 101, 114, 10] := by
  simp [listB, exC, lineB, dec0, whereB, nameB]
theorem wr_at (w : World) : CdAt w wrC ⟨⟨none, 0, 0⟩, ⟨none, 0, 0⟩, ⟨none, 0, 0⟩, ⟨none, 0, 0⟩⟩ := ⟨IntsAt.nil _ _, IntsAt.nil _ _, QdsAt.nil _ _, QdsAt.nil _ _⟩

set_option maxRecDepth 10000 in
set_option maxHeartbeats 4000000 in
theorem awake_calls (w : World) (htab : TabOk w) :
    Calls Tryd.prog 10 #[] w fun e w' => e = .returned (.bool true) ∧ Below w.heap.size w w' := by
  have HT : Hid (TabOk w) := htab
  clear htab
  go_enter Tryd.func10, Tryd.ntmps10
  go_wp2_with fail
  refine (example_calls w).mono ?_
  rintro e w1 ⟨s, rfl, hat, hb1⟩
  rw [show cdCells exC s = #[.int .i64 2, .int .i64 1, .int .i64 1, .int .i64 0, .int .i64 0, .int .i64 5, .slice s.t.a s.t.n s.t.c, .slice s.k.a s.k.n s.k.c, .slice s.i.a s.i.n s.i.c, .slice s.r.a s.r.n s.r.c] from rfl]
  have HX : Hid (Bx w1 (cdCells exC s) (w1.alloc (.cells #[.int .i64 2, .int .i64 1, .int .i64 1, .int .i64 0, .int .i64 0, .int .i64 5, .slice s.t.a s.t.n s.t.c, .slice s.k.a s.k.n s.k.c, .slice s.i.a s.i.n s.i.c, .slice s.r.a s.r.n s.r.c] 26))) := Bx.start w1 _
  have HA : Hid (CdAt w1 exC s ∧ Below w.heap.size w w1) := ⟨hat, hb1⟩
  clear hat hb1
  go_wp2_with fail
  refine (right_calls exC s _ (HA.out.1.below HX.out.low)).mono ?_
  rintro e w2 ⟨rfl, hb2⟩
  rw [ex_right]
  have HX2 : Hid (Bx w1 (cdCells exC s) w2) := HX.out.next hb2
  clear hb2 HX
  go_wp2_with fail
  refine (right_calls wrC ⟨⟨none, 0, 0⟩, ⟨none, 0, 0⟩, ⟨none, 0, 0⟩, ⟨none, 0, 0⟩⟩ w2 (wr_at w2)).mono ?_
  rintro e w3 ⟨rfl, hb3⟩
  rw [wr_wrong]
  have HX3 : Hid (Bx w1 (cdCells exC s) w3) := HX2.out.next hb3
  clear hb3 HX2
  have c0 := HX3.out.cell 0 (.int .i64 2) rfl
  have c1 := HX3.out.cell 1 (.int .i64 1) rfl
  have c2 := HX3.out.cell 2 (.int .i64 1) rfl
  have c3 := HX3.out.cell 3 (.int .i64 0) rfl
  have c4 := HX3.out.cell 4 (.int .i64 0) rfl
  have c5 := HX3.out.cell 5 (.int .i64 5) rfl
  have c6 := HX3.out.cell 6 (.slice s.t.a s.t.n s.t.c) rfl
  have c7 := HX3.out.cell 7 (.slice s.k.a s.k.n s.k.c) rfl
  have c8 := HX3.out.cell 8 (.slice s.i.a s.i.n s.i.c) rfl
  have c9 := HX3.out.cell 9 (.slice s.r.a s.r.n s.r.c) rfl
  go_wp2_with fail
  refine (encode_calls exC s w3 (HA.out.1.below HX3.out.low)).mono ?_
  rintro e w4 ⟨t4, rfl, ht4, hb4⟩
  have hE : encA exC = (textB exC, 0) := by rw [encA, if_pos ex_right]
  rw [hE] at ht4 ⊢
  have HX4 : Hid (Bx w1 (cdCells exC s) w4) := HX3.out.next hb4
  have hs4 : t4.size = 34 := by rw [← size_toList, ht4]; exact ex_len
  have hx4 : ((t4.extract 0 14).toList == [72, 76, 88, 49, 4, 2, 2, 0, 0, 10, 2, 1, 1, 2]) = true := by
    rw [ByteArray.toList_eq, beq_iff_eq, ← ex_take, ← show t4.data.toList = textB exC from ht4]
    simp
  clear hb4 HX3 hE ht4
  clear c0 c1 c2 c3 c4 c5 c6 c7 c8 c9
  have c0 := HX4.out.cell 0 (.int .i64 2) rfl
  have c1 := HX4.out.cell 1 (.int .i64 1) rfl
  have c2 := HX4.out.cell 2 (.int .i64 1) rfl
  have c3 := HX4.out.cell 3 (.int .i64 0) rfl
  have c4 := HX4.out.cell 4 (.int .i64 0) rfl
  have c5 := HX4.out.cell 5 (.int .i64 5) rfl
  have c6 := HX4.out.cell 6 (.slice s.t.a s.t.n s.t.c) rfl
  have c7 := HX4.out.cell 7 (.slice s.k.a s.k.n s.k.c) rfl
  have c8 := HX4.out.cell 8 (.slice s.i.a s.i.n s.i.c) rfl
  have c9 := HX4.out.cell 9 (.slice s.r.a s.r.n s.r.c) rfl
  go_wp2_with fail
  refine (list_calls exC s w4 (HA.out.1.below HX4.out.low) (HT.out.below (HA.out.2.trans (HX4.out.low.mono HA.out.2.size)))).mono ?_
  rintro e w5 ⟨t5, rfl, ht5, hb5⟩
  have hE : listA exC = (listB exC.cell, 0) := by rw [listA, if_pos ex_right]
  rw [hE] at ht5 ⊢
  have HX5 : Hid (Bx w1 (cdCells exC s) w5) := HX4.out.next hb5
  have hx5 : (t5.toList == [115, 116, 97, 114, 116, 32, 114, 48, 32, 99, 48, 32, 99, 111, 114, 110, 101, 114, 10, 107, 101, 101, 112, 32, 112, 48, 32, 114, 48, 10, 101, 110, 100, 32, 112, 48, 32, 99, 48, 32, 99, 111, 114, 110, 101, 114, 10]) = true := by
    rw [ByteArray.toList_eq, ht5, ex_list]; rfl
  clear hb5 HX4 hE ht5
  clear c0 c1 c2 c3 c4 c5 c6 c7 c8 c9
  go_wp2_with fail
  refine (decodeBad ⟨#[]⟩ w5 (by decide)).mono ?_
  rintro e w6 ⟨rfl, hb6⟩
  have HB : Hid (Below w.heap.size w w6) := HA.out.2.trans ((HX5.out.low.trans (hb6.mono HX5.out.low.size)).mono HA.out.2.size)
  clear hb6 HX5 HA
  have hn4 : ((t4.size : Int) != 34) = false := by rw [hs4]; rfl
  go_wp2
  go_ret
  exact ⟨rfl, below_alA HB.out _⟩
end Go.Proofs.YtignpgoicoojiaaDoor
