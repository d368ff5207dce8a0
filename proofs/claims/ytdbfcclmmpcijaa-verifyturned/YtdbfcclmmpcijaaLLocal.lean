/-
  A place that is told hangs on the instructions up to it alone; a code all of whose instructions are taken has none that is wrong with fewer of them.
-/
import Derived.Test.YtdbfcclmmpcijaaRows
import Derived.Test.YtdbfcclmmpcijaaVcB
import Derived.Test.YtdbfcclmmpcijaaVlP
namespace Go.Proofs.Ytdbfcclmmpcijaa
open Go.RowKit

/-- Both boxes, and the copy's rows. -/
structure Lw (w W : World) (cs : Array Value) (gd : Nat) (ds : Array Value) (c : Cd) (g1 g2 g3 g4 : Nat) : Prop where
  low : Below w.heap.size w W
  box : W.heap[w.heap.size]? = some (.cells cs 26 (0, 0))
  dbx : W.heap[gd]? = some (.cells ds 26 (0, 0))
  lt : w.heap.size < gd
  cop : CopAt W c g1 g2 g3 g4
section
variable {w W W2 : World} {cs ds es : Array Value} {gd g1 g2 g3 g4 : Nat} {c : Cd}
theorem Lw.next (h : Lw w W cs gd ds c g1 g2 g3 g4) (hb : Below W.heap.size W W2) : Lw w W2 cs gd ds c g1 g2 g3 g4 :=
  ⟨below_two h.low hb, row_next h.box hb, row_next h.dbx hb, h.lt, h.cop.next hb⟩
theorem Lw.put (h : Lw w W cs gd ds c g1 g2 g3 g4) (i : Nat) (v : Value) (he : ds.setIfInBounds i v = es) : Lw w (W.setCell ⟨gd, i, none⟩ v) cs gd es c g1 g2 g3 g4 := by
  have hlt := h.lt
  refine ⟨h.low.setCell (p := ⟨gd, i, none⟩) (by show w.heap.size ≤ gd; omega) v, by rw [Below.heap_setCell _ _ _ _ (by show w.heap.size ≠ gd; omega)]; exact h.box, by rw [heap_setCell_same _ _ _ _ _ _ h.dbx, he], h.lt, ⟨?_, ?_, ?_, ?_⟩⟩
  · rw [heap_setOther _ h.dbx h.cop.t (by decide)]; exact h.cop.t
  · rw [heap_setOther _ h.dbx h.cop.k (by decide)]; exact h.cop.k
  · rw [heap_setOther _ h.dbx h.cop.i (by decide)]; exact h.cop.i
  · rw [heap_setOther _ h.dbx h.cop.r (by decide)]; exact h.cop.r
theorem Lw.ten {u0 u1 u2 u3 u4 u5 u6 u7 u8 u9 v0 v1 v2 v3 v4 v5 v6 v7 v8 v9 : Value} (h : Lw w W cs gd #[u0, u1, u2, u3, u4, u5, u6, u7, u8, u9] c g1 g2 g3 g4) : Lw w (((((((((((W).setCell ⟨gd, 0, none⟩ v0).setCell ⟨gd, 1, none⟩ v1).setCell ⟨gd, 2, none⟩ v2).setCell ⟨gd, 3, none⟩ v3).setCell ⟨gd, 4, none⟩ v4).setCell ⟨gd, 5, none⟩ v5).setCell ⟨gd, 6, none⟩ v6).setCell ⟨gd, 7, none⟩ v7).setCell ⟨gd, 8, none⟩ v8).setCell ⟨gd, 9, none⟩ v9) cs gd #[v0, v1, v2, v3, v4, v5, v6, v7, v8, v9] c g1 g2 g3 g4 := by
  have h0 : Lw w ((W).setCell ⟨gd, 0, none⟩ v0) cs gd #[v0, u1, u2, u3, u4, u5, u6, u7, u8, u9] c g1 g2 g3 g4 := h.put 0 v0 rfl
  have h1 : Lw w (((W).setCell ⟨gd, 0, none⟩ v0).setCell ⟨gd, 1, none⟩ v1) cs gd #[v0, v1, u2, u3, u4, u5, u6, u7, u8, u9] c g1 g2 g3 g4 := h0.put 1 v1 rfl
  have h2 : Lw w ((((W).setCell ⟨gd, 0, none⟩ v0).setCell ⟨gd, 1, none⟩ v1).setCell ⟨gd, 2, none⟩ v2) cs gd #[v0, v1, v2, u3, u4, u5, u6, u7, u8, u9] c g1 g2 g3 g4 := h1.put 2 v2 rfl
  have h3 : Lw w (((((W).setCell ⟨gd, 0, none⟩ v0).setCell ⟨gd, 1, none⟩ v1).setCell ⟨gd, 2, none⟩ v2).setCell ⟨gd, 3, none⟩ v3) cs gd #[v0, v1, v2, v3, u4, u5, u6, u7, u8, u9] c g1 g2 g3 g4 := h2.put 3 v3 rfl
  have h4 : Lw w ((((((W).setCell ⟨gd, 0, none⟩ v0).setCell ⟨gd, 1, none⟩ v1).setCell ⟨gd, 2, none⟩ v2).setCell ⟨gd, 3, none⟩ v3).setCell ⟨gd, 4, none⟩ v4) cs gd #[v0, v1, v2, v3, v4, u5, u6, u7, u8, u9] c g1 g2 g3 g4 := h3.put 4 v4 rfl
  have h5 : Lw w (((((((W).setCell ⟨gd, 0, none⟩ v0).setCell ⟨gd, 1, none⟩ v1).setCell ⟨gd, 2, none⟩ v2).setCell ⟨gd, 3, none⟩ v3).setCell ⟨gd, 4, none⟩ v4).setCell ⟨gd, 5, none⟩ v5) cs gd #[v0, v1, v2, v3, v4, v5, u6, u7, u8, u9] c g1 g2 g3 g4 := h4.put 5 v5 rfl
  have h6 : Lw w ((((((((W).setCell ⟨gd, 0, none⟩ v0).setCell ⟨gd, 1, none⟩ v1).setCell ⟨gd, 2, none⟩ v2).setCell ⟨gd, 3, none⟩ v3).setCell ⟨gd, 4, none⟩ v4).setCell ⟨gd, 5, none⟩ v5).setCell ⟨gd, 6, none⟩ v6) cs gd #[v0, v1, v2, v3, v4, v5, v6, u7, u8, u9] c g1 g2 g3 g4 := h5.put 6 v6 rfl
  have h7 : Lw w (((((((((W).setCell ⟨gd, 0, none⟩ v0).setCell ⟨gd, 1, none⟩ v1).setCell ⟨gd, 2, none⟩ v2).setCell ⟨gd, 3, none⟩ v3).setCell ⟨gd, 4, none⟩ v4).setCell ⟨gd, 5, none⟩ v5).setCell ⟨gd, 6, none⟩ v6).setCell ⟨gd, 7, none⟩ v7) cs gd #[v0, v1, v2, v3, v4, v5, v6, v7, u8, u9] c g1 g2 g3 g4 := h6.put 7 v7 rfl
  have h8 : Lw w ((((((((((W).setCell ⟨gd, 0, none⟩ v0).setCell ⟨gd, 1, none⟩ v1).setCell ⟨gd, 2, none⟩ v2).setCell ⟨gd, 3, none⟩ v3).setCell ⟨gd, 4, none⟩ v4).setCell ⟨gd, 5, none⟩ v5).setCell ⟨gd, 6, none⟩ v6).setCell ⟨gd, 7, none⟩ v7).setCell ⟨gd, 8, none⟩ v8) cs gd #[v0, v1, v2, v3, v4, v5, v6, v7, v8, u9] c g1 g2 g3 g4 := h7.put 8 v8 rfl
  have h9 : Lw w (((((((((((W).setCell ⟨gd, 0, none⟩ v0).setCell ⟨gd, 1, none⟩ v1).setCell ⟨gd, 2, none⟩ v2).setCell ⟨gd, 3, none⟩ v3).setCell ⟨gd, 4, none⟩ v4).setCell ⟨gd, 5, none⟩ v5).setCell ⟨gd, 6, none⟩ v6).setCell ⟨gd, 7, none⟩ v7).setCell ⟨gd, 8, none⟩ v8).setCell ⟨gd, 9, none⟩ v9) cs gd #[v0, v1, v2, v3, v4, v5, v6, v7, v8, v9] c g1 g2 g3 g4 := h8.put 9 v9 rfl
  exact h9
theorem Lw.cell (h : Lw w W cs gd ds c g1 g2 g3 g4) (i : Nat) (v : Value) (hv : cs[i]? = some v) : W.cell? ⟨w.heap.size, i, none⟩ = some v := cell_block h.box i v hv
theorem Lw.d (h : Lw w W cs gd ds c g1 g2 g3 g4) (i : Nat) (v : Value) (hv : ds[i]? = some v) : W.cell? ⟨gd, i, none⟩ = some v := cell_block h.dbx i v hv
theorem Lw.fz (h : Lw w W cs gd ds c g1 g2 g3 g4) (i : Nat) : W.frozen? ⟨gd, i, none⟩ = false := frozen_of_row W _ i _ _ h.dbx
end
theorem tmod_bd (a : Int) (n : Nat) : -(n : Int) ≤ a.tmod ((n : Int) + 1) ∧ a.tmod ((n : Int) + 1) ≤ (n : Int) := by
  have h1 := Int.tmod_lt_of_pos a (show (0 : Int) < (n : Int) + 1 by omega)
  have h2 := Int.lt_tmod_of_pos a (show (0 : Int) < (n : Int) + 1 by omega)
  omega
def cutS (c : Cd) (g1 g2 g3 g4 k : Nat) : Ls := ⟨⟨some ⟨g1, 0, none⟩, c.table.length, c.table.length⟩, ⟨some ⟨g2, 0, none⟩, c.consts.length, c.consts.length⟩, ⟨some ⟨g3, 0, none⟩, k, c.cell.length + 2⟩, ⟨some ⟨g4, 0, none⟩, c.arrows.length, c.arrows.length⟩⟩
theorem CopAt.cut {W : World} {c : Cd} {g1 g2 g3 g4 : Nat} (h : CopAt W c g1 g2 g3 g4) (h1 : c.table.length ≤ maxLen) (h2 : c.consts.length ≤ maxLen) (h3 : c.cell.length ≤ maxLen) (h4 : c.arrows.length ≤ maxLen) (k : Nat) (hk : k ≤ c.cell.length) : CdAt W (cutC c k) (cutS c g1 g2 g3 g4 k) := by
  have ha := h.at' h1 h2 h3 h4
  exact ⟨ha.table, ha.consts, ha.cell.cut k hk, ha.arrows⟩

set_option maxRecDepth 20000 in
set_option maxHeartbeats 4000000 in
theorem local_walk (c : Cd) (s : Ls) (a : Int) (w : World) (hc : CdIn w c s) :
    Calls Try.prog 5 #[.agg (cdCells c s), .int .i64 a] w fun e w' => e = .returned (.bool true) ∧ Below w.heap.size w w' := by
  have HI : Hid (CdIn w c s) := hc
  have HC : Hid (CdAt w c s) := hc.at'
  clear hc
  have HX : Hid (Bx w (cdCells c s) (w.alloc (.cells #[.int .i64 c.letters, .int .i64 c.planes, .int .i64 c.regs, .int .i64 c.lo, .int .i64 c.hi, .int .i64 c.most, .slice s.t.a s.t.n s.t.c, .slice s.k.a s.k.n s.k.c, .slice s.i.a s.i.n s.i.c, .slice s.r.a s.r.n s.r.c] 26))) := Bx.start w _
  rw [show cdCells c s = #[.int .i64 c.letters, .int .i64 c.planes, .int .i64 c.regs, .int .i64 c.lo, .int .i64 c.hi, .int .i64 c.most, .slice s.t.a s.t.n s.t.c, .slice s.k.a s.k.n s.k.c, .slice s.i.a s.i.n s.i.c, .slice s.r.a s.r.n s.r.c] from rfl]
  go_enter Try.func5, Try.ntmps5
  go_wp2_with fail
  refine (weighs_calls c s _ (HC.out.below HX.out.low)).mono ?_
  rintro e w1 ⟨⟨z1, rfl, hz1⟩, hb⟩
  have HX1 : Hid (Bx w (cdCells c s) w1) := HX.out.next hb
  clear hb HX
  by_cases g1 : 2147483647 < z1
  · go_wp2
    go_ret
    exact ⟨rfl, HX1.out.low⟩
  have HZ : Hid (s.t.n ≤ 2147483647 ∧ s.k.n ≤ 2147483647 ∧ s.i.n ≤ 2147483647 ∧ s.r.n ≤ 2147483647) := hz1 (by omega)
  go_wp2_with fail
  refine (awake_calls w1).mono ?_
  rintro e w2 ⟨rfl, hb⟩
  have HX2 : Hid (Bx w (cdCells c s) w2) := HX1.out.next hb
  clear hb HX1 g1 hz1
  have c0 := HX2.out.cell 0 (.int .i64 c.letters) rfl
  have c1 := HX2.out.cell 1 (.int .i64 c.planes) rfl
  have c2 := HX2.out.cell 2 (.int .i64 c.regs) rfl
  have c3 := HX2.out.cell 3 (.int .i64 c.lo) rfl
  have c4 := HX2.out.cell 4 (.int .i64 c.hi) rfl
  have c5 := HX2.out.cell 5 (.int .i64 c.most) rfl
  have c6 := HX2.out.cell 6 (.slice s.t.a s.t.n s.t.c) rfl
  have c7 := HX2.out.cell 7 (.slice s.k.a s.k.n s.k.c) rfl
  have c8 := HX2.out.cell 8 (.slice s.i.a s.i.n s.i.c) rfl
  have c9 := HX2.out.cell 9 (.slice s.r.a s.r.n s.r.c) rfl
  go_wp2_with fail
  refine (check_calls c s _ (HC.out.below HX2.out.low)).mono ?_
  rintro e w3 ⟨rfl, hb⟩
  have HX3 : Hid (Bx w (cdCells c s) w3) := HX2.out.next hb
  clear hb HX2
  clear c0 c1 c2 c3 c4 c5 c6 c7 c8 c9
  have c0 := HX3.out.cell 0 (.int .i64 c.letters) rfl
  have c1 := HX3.out.cell 1 (.int .i64 c.planes) rfl
  have c2 := HX3.out.cell 2 (.int .i64 c.regs) rfl
  have c3 := HX3.out.cell 3 (.int .i64 c.lo) rfl
  have c4 := HX3.out.cell 4 (.int .i64 c.hi) rfl
  have c5 := HX3.out.cell 5 (.int .i64 c.most) rfl
  have c6 := HX3.out.cell 6 (.slice s.t.a s.t.n s.t.c) rfl
  have c7 := HX3.out.cell 7 (.slice s.k.a s.k.n s.k.c) rfl
  have c8 := HX3.out.cell 8 (.slice s.i.a s.i.n s.i.c) rfl
  have c9 := HX3.out.cell 9 (.slice s.r.a s.r.n s.r.c) rfl
  go_wp2_with fail
  refine (rightR_calls c s _ (HC.out.below HX3.out.low)).mono ?_
  rintro e w4 ⟨rfl, hb⟩
  have HX4 : Hid (Bx w (cdCells c s) w4) := HX3.out.next hb
  clear hb HX3
  clear c0 c1 c2 c3 c4 c5 c6 c7 c8 c9
  obtain ⟨r1, h1⟩ : ∃ r, rightB c = r := ⟨_, rfl⟩
  have H1 : Hid (rightB c = r1) := h1
  rw [h1]
  clear h1
  have HN : Hid (c.table.length = s.t.n ∧ c.consts.length = s.k.n ∧ c.cell.length = s.i.n ∧ c.arrows.length = s.r.n) := ⟨HC.out.table.length, HC.out.consts.length, HC.out.cell.length, HC.out.arrows.length⟩
  have HM : Hid (c.table.length ≤ maxLen ∧ c.consts.length ≤ maxLen ∧ c.cell.length ≤ maxLen ∧ c.arrows.length ≤ maxLen) := by
    obtain ⟨l1, l2, l3, l4⟩ := HN.out
    obtain ⟨m1, m2, m3, m4⟩ := HZ.out
    unfold maxLen
    exact ⟨by omega, by omega, by omega, by omega⟩
  have c0 := HX4.out.cell 0 (.int .i64 c.letters) rfl
  have c1 := HX4.out.cell 1 (.int .i64 c.planes) rfl
  have c2 := HX4.out.cell 2 (.int .i64 c.regs) rfl
  have c3 := HX4.out.cell 3 (.int .i64 c.lo) rfl
  have c4 := HX4.out.cell 4 (.int .i64 c.hi) rfl
  have c5 := HX4.out.cell 5 (.int .i64 c.most) rfl
  have c6 := HX4.out.cell 6 (.slice s.t.a s.t.n s.t.c) rfl
  have c7 := HX4.out.cell 7 (.slice s.k.a s.k.n s.k.c) rfl
  have c8 := HX4.out.cell 8 (.slice s.i.a s.i.n s.i.c) rfl
  have c9 := HX4.out.cell 9 (.slice s.r.a s.r.n s.r.c) rfl
  cases r1
  · have HE : Hid (chkB c = (-1, 160)) := chk0 H1.out
    rw [HE.out]
    go_wp2
    go_ret
    exact ⟨rfl, HX4.out.low⟩
  have HCs := chk_cases c
  obtain ⟨at1, hat⟩ : ∃ x, (chkB c).1 = x := ⟨_, rfl⟩
  obtain ⟨er, her⟩ : ∃ x, (chkB c).2 = x := ⟨_, rfl⟩
  have HAE : Hid (chkB c = (at1, er)) := Prod.ext hat her
  rw [hat, her]
  rw [hat, her] at HCs
  clear hat her
  have hn3 : s.i.n ≤ 2147483647 := HZ.out.2.2.1
  have HCut : Hid (∀ (W : World) (x1 x2 x3 x4 : Nat), CopAt W c x1 x2 x3 x4 → ∀ k, k ≤ s.i.n → CdAt W (cutC c k) (cutS c x1 x2 x3 x4 k) ∧ cdCells (cutC c k) (cutS c x1 x2 x3 x4 k) = #[.int .i64 c.letters, .int .i64 c.planes, .int .i64 c.regs, .int .i64 c.lo, .int .i64 c.hi, .int .i64 c.most, .slice (some ⟨x1, 0, none⟩) s.t.n s.t.n, .slice (some ⟨x2, 0, none⟩) s.k.n s.k.n, .slice (some ⟨x3, 0, none⟩) k (s.i.n + 2), .slice (some ⟨x4, 0, none⟩) s.r.n s.r.n]) := fun W x1 x2 x3 x4 hcop k hk => by
    obtain ⟨l1, l2, l3, l4⟩ := HN.out
    obtain ⟨m1, m2, m3, m4⟩ := HM.out
    exact ⟨hcop.cut m1 m2 m3 m4 k (by omega), by simp only [cdCells, cutC, cutS, l1, l2, l3, l4]⟩
  have HCop : Hid (∀ x1 x2 x3 x4, cdCells c (copS c x1 x2 x3 x4) = #[.int .i64 c.letters, .int .i64 c.planes, .int .i64 c.regs, .int .i64 c.lo, .int .i64 c.hi, .int .i64 c.most, .slice (some ⟨x1, 0, none⟩) s.t.n s.t.n, .slice (some ⟨x2, 0, none⟩) s.k.n s.k.n, .slice (some ⟨x3, 0, none⟩) s.i.n (s.i.n + 2), .slice (some ⟨x4, 0, none⟩) s.r.n s.r.n]) := fun x1 x2 x3 x4 => by
    obtain ⟨l1, l2, l3, l4⟩ := HN.out
    simp only [cdCells, copS, l1, l2, l3, l4]
  have HIn : Hid (∀ W : World, Below w.heap.size w W → CdIn W c s) := fun W hW => ⟨HC.out.below hW, HI.out.t, HI.out.k, HI.out.i, HI.out.r⟩
  rcases HCs with hm1 | ⟨j, hj, hat, hen, _, hyes, f, hf, f1, f2, f3⟩
  · subst hm1
    have d1 : decide ((-1 : Int) < -1) = false := by decide
    have d2 : decide ((s.i.n : Int) ≤ -1) = false := by simp; omega
    have HNo : Hid (∀ k, (chkB (cutC c k)).1 = -1) := chk_none H1.out (by rw [HAE.out])
    go_wp2_with fail
    refine (copied_calls c s _ (HIn.out _ HX4.out.low) HZ.out).mono ?_
    rintro e w5 ⟨x1, x2, x3, x4, rfl, hcop, hge, hb⟩
    rw [HCop.out]
    have HL6 : Hid (Lw w (w5.alloc (.cells #[.int .i64 c.letters, .int .i64 c.planes, .int .i64 c.regs, .int .i64 c.lo, .int .i64 c.hi, .int .i64 c.most, .slice (some ⟨x1, 0, none⟩) s.t.n s.t.n, .slice (some ⟨x2, 0, none⟩) s.k.n s.k.n, .slice (some ⟨x3, 0, none⟩) s.i.n (s.i.n + 2), .slice (some ⟨x4, 0, none⟩) s.r.n s.r.n] 26)) (cdCells c s) w5.heap.size #[.int .i64 c.letters, .int .i64 c.planes, .int .i64 c.regs, .int .i64 c.lo, .int .i64 c.hi, .int .i64 c.most, .slice (some ⟨x1, 0, none⟩) s.t.n s.t.n, .slice (some ⟨x2, 0, none⟩) s.k.n s.k.n, .slice (some ⟨x3, 0, none⟩) s.i.n (s.i.n + 2), .slice (some ⟨x4, 0, none⟩) s.r.n s.r.n] c x1 x2 x3 x4) :=
      ⟨below_alA (HX4.out.next hb).low _, row_next (HX4.out.next hb).box (below_new _), heap_alloc_new _ _, (HX4.out.next hb).size, hcop.next (below_new _)⟩
    clear hcop hge hb HX4
    clear c0 c1 c2 c3 c4 c5 c6 c7 c8 c9
    go_upto_region 12 with (fail)
    generalize w5.alloc (.cells #[.int .i64 c.letters, .int .i64 c.planes, .int .i64 c.regs, .int .i64 c.lo, .int .i64 c.hi, .int .i64 c.most, .slice (some ⟨x1, 0, none⟩) s.t.n s.t.n, .slice (some ⟨x2, 0, none⟩) s.k.n s.k.n, .slice (some ⟨x3, 0, none⟩) s.i.n (s.i.n + 2), .slice (some ⟨x4, 0, none⟩) s.r.n s.r.n] 26) = w6 at *
    generalize w5.heap.size = gd at *
    have c8 := HL6.out.cell 8 (.slice s.i.a s.i.n s.i.c) rfl
    have d8 := HL6.out.d 8 (.slice (some ⟨x3, 0, none⟩) s.i.n (s.i.n + 2)) rfl
    have f8 := HL6.out.fz 8
    go_upto_region 20 with (fail)
    have htm := tmod_bd a s.i.n
    obtain ⟨K, hK⟩ : ∃ K, a.tmod ((s.i.n : Int) + 1) = K := ⟨_, rfl⟩
    rw [hK] at htm ⊢
    obtain ⟨t1, t2⟩ := htm
    clear hK
    by_cases hneg : K < 0
    · obtain ⟨kk, hkk⟩ : ∃ kk : Nat, K + (s.i.n : Int) + 1 = (kk : Int) := ⟨(K + (s.i.n : Int) + 1).toNat, by omega⟩
      have hkn : kk ≤ s.i.n := by omega
      go_upto_region 22 with (fail)
      clear hkk hneg t1 t2
      have hcut := HCut.out (w6.setCell ⟨gd, 8, none⟩ (.slice (some ⟨x3, 0, none⟩) kk (s.i.n + 2))) x1 x2 x3 x4 (HL6.out.put 8 _ rfl).cop kk (by omega)
      have HL7 : Hid (Lw w (w6.setCell ⟨gd, 8, none⟩ (.slice (some ⟨x3, 0, none⟩) kk (s.i.n + 2))) (cdCells c s) gd #[.int .i64 c.letters, .int .i64 c.planes, .int .i64 c.regs, .int .i64 c.lo, .int .i64 c.hi, .int .i64 c.most, .slice (some ⟨x1, 0, none⟩) s.t.n s.t.n, .slice (some ⟨x2, 0, none⟩) s.k.n s.k.n, .slice (some ⟨x3, 0, none⟩) kk (s.i.n + 2), .slice (some ⟨x4, 0, none⟩) s.r.n s.r.n] c x1 x2 x3 x4) := HL6.out.put 8 _ rfl
      have HCk := check_calls _ _ _ hcut.1
      rw [hcut.2] at HCk
      have HCk2 : Hid _ := HCk
      clear hcut HCk
      go_upto_region 23 with (fail)
      clear c8 d8 f8 HL6
      generalize w6.setCell ⟨gd, 8, none⟩ (.slice (some ⟨x3, 0, none⟩) kk (s.i.n + 2)) = w7 at *
      have d0 := HL7.out.d 0 (.int .i64 c.letters) rfl
      have d1 := HL7.out.d 1 (.int .i64 c.planes) rfl
      have d2 := HL7.out.d 2 (.int .i64 c.regs) rfl
      have d3 := HL7.out.d 3 (.int .i64 c.lo) rfl
      have d4 := HL7.out.d 4 (.int .i64 c.hi) rfl
      have d5 := HL7.out.d 5 (.int .i64 c.most) rfl
      have d6 := HL7.out.d 6 (.slice (some ⟨x1, 0, none⟩) s.t.n s.t.n) rfl
      have d7 := HL7.out.d 7 (.slice (some ⟨x2, 0, none⟩) s.k.n s.k.n) rfl
      have d8 := HL7.out.d 8 (.slice (some ⟨x3, 0, none⟩) kk (s.i.n + 2)) rfl
      have d9 := HL7.out.d 9 (.slice (some ⟨x4, 0, none⟩) s.r.n s.r.n) rfl
      go_wp2_with fail
      refine Calls.mono HCk2.out ?_
      rintro e w8 ⟨rfl, hb⟩
      rw [HNo.out]
      have HB8 : Hid (Below w.heap.size w w8) := (HL7.out.next hb).low
      clear hb HL7 HCk2
      clear d0 d1 d2 d3 d4 d5 d6 d7 d8 d9
      go_wp2
      go_ret
      exact ⟨rfl, HB8.out⟩
    · obtain ⟨kk, rfl⟩ : ∃ kk : Nat, K = (kk : Int) := ⟨K.toNat, by omega⟩
      have hkn : kk ≤ s.i.n := by omega
      have hcut := HCut.out (w6.setCell ⟨gd, 8, none⟩ (.slice (some ⟨x3, 0, none⟩) kk (s.i.n + 2))) x1 x2 x3 x4 (HL6.out.put 8 _ rfl).cop kk (by omega)
      have HL7 : Hid (Lw w (w6.setCell ⟨gd, 8, none⟩ (.slice (some ⟨x3, 0, none⟩) kk (s.i.n + 2))) (cdCells c s) gd #[.int .i64 c.letters, .int .i64 c.planes, .int .i64 c.regs, .int .i64 c.lo, .int .i64 c.hi, .int .i64 c.most, .slice (some ⟨x1, 0, none⟩) s.t.n s.t.n, .slice (some ⟨x2, 0, none⟩) s.k.n s.k.n, .slice (some ⟨x3, 0, none⟩) kk (s.i.n + 2), .slice (some ⟨x4, 0, none⟩) s.r.n s.r.n] c x1 x2 x3 x4) := HL6.out.put 8 _ rfl
      have HCk := check_calls _ _ _ hcut.1
      rw [hcut.2] at HCk
      have HCk2 : Hid _ := HCk
      clear hcut HCk
      go_upto_region 23 with (fail)
      clear c8 d8 f8 HL6
      generalize w6.setCell ⟨gd, 8, none⟩ (.slice (some ⟨x3, 0, none⟩) kk (s.i.n + 2)) = w7 at *
      have d0 := HL7.out.d 0 (.int .i64 c.letters) rfl
      have d1 := HL7.out.d 1 (.int .i64 c.planes) rfl
      have d2 := HL7.out.d 2 (.int .i64 c.regs) rfl
      have d3 := HL7.out.d 3 (.int .i64 c.lo) rfl
      have d4 := HL7.out.d 4 (.int .i64 c.hi) rfl
      have d5 := HL7.out.d 5 (.int .i64 c.most) rfl
      have d6 := HL7.out.d 6 (.slice (some ⟨x1, 0, none⟩) s.t.n s.t.n) rfl
      have d7 := HL7.out.d 7 (.slice (some ⟨x2, 0, none⟩) s.k.n s.k.n) rfl
      have d8 := HL7.out.d 8 (.slice (some ⟨x3, 0, none⟩) kk (s.i.n + 2)) rfl
      have d9 := HL7.out.d 9 (.slice (some ⟨x4, 0, none⟩) s.r.n s.r.n) rfl
      go_wp2_with fail
      refine Calls.mono HCk2.out ?_
      rintro e w8 ⟨rfl, hb⟩
      rw [HNo.out]
      have HB8 : Hid (Below w.heap.size w w8) := (HL7.out.next hb).low
      clear hb HL7 HCk2
      clear d0 d1 d2 d3 d4 d5 d6 d7 d8 d9
      go_wp2
      go_ret
      exact ⟨rfl, HB8.out⟩
  · subst hat
    have HEn : Hid (er ≠ 0) := hen
    have HYes : Hid (chkB (cutC c (j + 1)) = ((j : Int), er)) := hyes.trans HAE.out
    have HF : Hid (chkB (cutC c j) = (-1, f)) := hf
    have hjn : j < s.i.n := by rw [← HN.out.2.2.1]; exact hj
    have d1 : decide ((j : Int) < -1) = false := by first | (simp; done) | (simp; omega)
    have d2 : decide ((s.i.n : Int) ≤ (j : Int)) = false := by simp; omega
    have d3 : decide (s.i.n ≤ j) = false := by simp; omega
    have d4 : decide ((0 : Int) ≤ (j : Int)) = true := by simp
    clear hj hyes hf hen
    go_wp2_with fail
    refine (copied_calls c s _ (HIn.out _ HX4.out.low) HZ.out).mono ?_
    rintro e w5 ⟨x1, x2, x3, x4, rfl, hcop, hge, hb⟩
    rw [HCop.out]
    have HL6 : Hid (Lw w (w5.alloc (.cells #[.int .i64 c.letters, .int .i64 c.planes, .int .i64 c.regs, .int .i64 c.lo, .int .i64 c.hi, .int .i64 c.most, .slice (some ⟨x1, 0, none⟩) s.t.n s.t.n, .slice (some ⟨x2, 0, none⟩) s.k.n s.k.n, .slice (some ⟨x3, 0, none⟩) s.i.n (s.i.n + 2), .slice (some ⟨x4, 0, none⟩) s.r.n s.r.n] 26)) (cdCells c s) w5.heap.size #[.int .i64 c.letters, .int .i64 c.planes, .int .i64 c.regs, .int .i64 c.lo, .int .i64 c.hi, .int .i64 c.most, .slice (some ⟨x1, 0, none⟩) s.t.n s.t.n, .slice (some ⟨x2, 0, none⟩) s.k.n s.k.n, .slice (some ⟨x3, 0, none⟩) s.i.n (s.i.n + 2), .slice (some ⟨x4, 0, none⟩) s.r.n s.r.n] c x1 x2 x3 x4) :=
      ⟨below_alA (HX4.out.next hb).low _, row_next (HX4.out.next hb).box (below_new _), heap_alloc_new _ _, (HX4.out.next hb).size, hcop.next (below_new _)⟩
    clear hcop hge hb HX4
    clear c0 c1 c2 c3 c4 c5 c6 c7 c8 c9
    go_upto_region 12 with (fail)
    generalize w5.alloc (.cells #[.int .i64 c.letters, .int .i64 c.planes, .int .i64 c.regs, .int .i64 c.lo, .int .i64 c.hi, .int .i64 c.most, .slice (some ⟨x1, 0, none⟩) s.t.n s.t.n, .slice (some ⟨x2, 0, none⟩) s.k.n s.k.n, .slice (some ⟨x3, 0, none⟩) s.i.n (s.i.n + 2), .slice (some ⟨x4, 0, none⟩) s.r.n s.r.n] 26) = w6 at *
    generalize w5.heap.size = gd at *
    have x8 := HL6.out.d 8 (.slice (some ⟨x3, 0, none⟩) s.i.n (s.i.n + 2)) rfl
    have f8 := HL6.out.fz 8
    have hcut := HCut.out (w6.setCell ⟨gd, 8, none⟩ (.slice (some ⟨x3, 0, none⟩) j (s.i.n + 2))) x1 x2 x3 x4 (HL6.out.put 8 _ rfl).cop j (by omega)
    have HL7 : Hid (Lw w (w6.setCell ⟨gd, 8, none⟩ (.slice (some ⟨x3, 0, none⟩) j (s.i.n + 2))) (cdCells c s) gd #[.int .i64 c.letters, .int .i64 c.planes, .int .i64 c.regs, .int .i64 c.lo, .int .i64 c.hi, .int .i64 c.most, .slice (some ⟨x1, 0, none⟩) s.t.n s.t.n, .slice (some ⟨x2, 0, none⟩) s.k.n s.k.n, .slice (some ⟨x3, 0, none⟩) j (s.i.n + 2), .slice (some ⟨x4, 0, none⟩) s.r.n s.r.n] c x1 x2 x3 x4) := HL6.out.put 8 _ rfl
    have HCk := check_calls _ _ _ hcut.1
    rw [hcut.2] at HCk
    have HCk2 : Hid _ := HCk
    clear hcut HCk
    go_upto_region 14 with (fail)
    clear x8 f8 HL6
    generalize w6.setCell ⟨gd, 8, none⟩ (.slice (some ⟨x3, 0, none⟩) j (s.i.n + 2)) = w7 at *
    have d0 := HL7.out.d 0 (.int .i64 c.letters) rfl
    have d1 := HL7.out.d 1 (.int .i64 c.planes) rfl
    have d2 := HL7.out.d 2 (.int .i64 c.regs) rfl
    have d3 := HL7.out.d 3 (.int .i64 c.lo) rfl
    have d4 := HL7.out.d 4 (.int .i64 c.hi) rfl
    have d5 := HL7.out.d 5 (.int .i64 c.most) rfl
    have d6 := HL7.out.d 6 (.slice (some ⟨x1, 0, none⟩) s.t.n s.t.n) rfl
    have d7 := HL7.out.d 7 (.slice (some ⟨x2, 0, none⟩) s.k.n s.k.n) rfl
    have d8 := HL7.out.d 8 (.slice (some ⟨x3, 0, none⟩) j (s.i.n + 2)) rfl
    have d9 := HL7.out.d 9 (.slice (some ⟨x4, 0, none⟩) s.r.n s.r.n) rfl
    go_wp2_with fail
    refine Calls.mono HCk2.out ?_
    rintro e w8 ⟨rfl, hb⟩
    rw [HF.out]
    have HL8 : Hid _ := HL7.out.next hb
    clear hb HL7 HCk2
    clear d0 d1 d2 d3 d4 d5 d6 d7 d8 d9
    have c0 := HL8.out.cell 0 (.int .i64 c.letters) rfl
    have c1 := HL8.out.cell 1 (.int .i64 c.planes) rfl
    have c2 := HL8.out.cell 2 (.int .i64 c.regs) rfl
    have c3 := HL8.out.cell 3 (.int .i64 c.lo) rfl
    have c4 := HL8.out.cell 4 (.int .i64 c.hi) rfl
    have c5 := HL8.out.cell 5 (.int .i64 c.most) rfl
    have c6 := HL8.out.cell 6 (.slice s.t.a s.t.n s.t.c) rfl
    have c7 := HL8.out.cell 7 (.slice s.k.a s.k.n s.k.c) rfl
    have c8 := HL8.out.cell 8 (.slice s.i.a s.i.n s.i.c) rfl
    have c9 := HL8.out.cell 9 (.slice s.r.a s.r.n s.r.c) rfl
    go_wp2_with fail
    refine (copied_calls c s _ (HIn.out _ HL8.out.low) HZ.out).mono ?_
    rintro e w9 ⟨y1, y2, y3, y4, rfl, hcop, hge, hb⟩
    rw [HCop.out]
    have HL9 : Hid (Lw w w9 (cdCells c s) gd #[.int .i64 c.letters, .int .i64 c.planes, .int .i64 c.regs, .int .i64 c.lo, .int .i64 c.hi, .int .i64 c.most, .slice (some ⟨x1, 0, none⟩) s.t.n s.t.n, .slice (some ⟨x2, 0, none⟩) s.k.n s.k.n, .slice (some ⟨x3, 0, none⟩) j (s.i.n + 2), .slice (some ⟨x4, 0, none⟩) s.r.n s.r.n] c y1 y2 y3 y4) := ⟨below_two HL8.out.low hb, row_next HL8.out.box hb, row_next HL8.out.dbx hb, HL8.out.lt, hcop⟩
    clear hcop hge hb HL8
    clear c0 c1 c2 c3 c4 c5 c6 c7 c8 c9
    have HLa : Hid (Lw w (((((((((((w9).setCell ⟨gd, 0, none⟩ (.int .i64 c.letters)).setCell ⟨gd, 1, none⟩ (.int .i64 c.planes)).setCell ⟨gd, 2, none⟩ (.int .i64 c.regs)).setCell ⟨gd, 3, none⟩ (.int .i64 c.lo)).setCell ⟨gd, 4, none⟩ (.int .i64 c.hi)).setCell ⟨gd, 5, none⟩ (.int .i64 c.most)).setCell ⟨gd, 6, none⟩ (.slice (some ⟨y1, 0, none⟩) s.t.n s.t.n)).setCell ⟨gd, 7, none⟩ (.slice (some ⟨y2, 0, none⟩) s.k.n s.k.n)).setCell ⟨gd, 8, none⟩ (.slice (some ⟨y3, 0, none⟩) s.i.n (s.i.n + 2))).setCell ⟨gd, 9, none⟩ (.slice (some ⟨y4, 0, none⟩) s.r.n s.r.n)) (cdCells c s) gd #[.int .i64 c.letters, .int .i64 c.planes, .int .i64 c.regs, .int .i64 c.lo, .int .i64 c.hi, .int .i64 c.most, .slice (some ⟨y1, 0, none⟩) s.t.n s.t.n, .slice (some ⟨y2, 0, none⟩) s.k.n s.k.n, .slice (some ⟨y3, 0, none⟩) s.i.n (s.i.n + 2), .slice (some ⟨y4, 0, none⟩) s.r.n s.r.n] c y1 y2 y3 y4) := HL9.out.ten
    have d0 := HL9.out.d 0 (.int .i64 c.letters) rfl
    have d1 := HL9.out.d 1 (.int .i64 c.planes) rfl
    have d2 := HL9.out.d 2 (.int .i64 c.regs) rfl
    have d3 := HL9.out.d 3 (.int .i64 c.lo) rfl
    have d4 := HL9.out.d 4 (.int .i64 c.hi) rfl
    have d5 := HL9.out.d 5 (.int .i64 c.most) rfl
    have d6 := HL9.out.d 6 (.slice (some ⟨x1, 0, none⟩) s.t.n s.t.n) rfl
    have d7 := HL9.out.d 7 (.slice (some ⟨x2, 0, none⟩) s.k.n s.k.n) rfl
    have d8 := HL9.out.d 8 (.slice (some ⟨x3, 0, none⟩) j (s.i.n + 2)) rfl
    have d9 := HL9.out.d 9 (.slice (some ⟨x4, 0, none⟩) s.r.n s.r.n) rfl
    have fz := HL9.out.fz
    go_upto_region 16 with (fail)
    clear d0 d1 d2 d3 d4 d5 d6 d7 d8 d9
    clear HL9 fz
    generalize ((((((((((w9).setCell ⟨gd, 0, none⟩ (.int .i64 c.letters)).setCell ⟨gd, 1, none⟩ (.int .i64 c.planes)).setCell ⟨gd, 2, none⟩ (.int .i64 c.regs)).setCell ⟨gd, 3, none⟩ (.int .i64 c.lo)).setCell ⟨gd, 4, none⟩ (.int .i64 c.hi)).setCell ⟨gd, 5, none⟩ (.int .i64 c.most)).setCell ⟨gd, 6, none⟩ (.slice (some ⟨y1, 0, none⟩) s.t.n s.t.n)).setCell ⟨gd, 7, none⟩ (.slice (some ⟨y2, 0, none⟩) s.k.n s.k.n)).setCell ⟨gd, 8, none⟩ (.slice (some ⟨y3, 0, none⟩) s.i.n (s.i.n + 2))).setCell ⟨gd, 9, none⟩ (.slice (some ⟨y4, 0, none⟩) s.r.n s.r.n) = wa at *
    have x8 := HLa.out.d 8 (.slice (some ⟨y3, 0, none⟩) s.i.n (s.i.n + 2)) rfl
    have f8 := HLa.out.fz 8
    have hcut := HCut.out (wa.setCell ⟨gd, 8, none⟩ (.slice (some ⟨y3, 0, none⟩) (j + 1) (s.i.n + 2))) y1 y2 y3 y4 (HLa.out.put 8 _ rfl).cop (j + 1) (by omega)
    have HLb : Hid (Lw w (wa.setCell ⟨gd, 8, none⟩ (.slice (some ⟨y3, 0, none⟩) (j + 1) (s.i.n + 2))) (cdCells c s) gd #[.int .i64 c.letters, .int .i64 c.planes, .int .i64 c.regs, .int .i64 c.lo, .int .i64 c.hi, .int .i64 c.most, .slice (some ⟨y1, 0, none⟩) s.t.n s.t.n, .slice (some ⟨y2, 0, none⟩) s.k.n s.k.n, .slice (some ⟨y3, 0, none⟩) (j + 1) (s.i.n + 2), .slice (some ⟨y4, 0, none⟩) s.r.n s.r.n] c y1 y2 y3 y4) := HLa.out.put 8 _ rfl
    obtain ⟨jj, hjj⟩ : ∃ x, j + 1 = x := ⟨_, rfl⟩
    have hji : (j : Int) + 1 = (jj : Int) := by omega
    rw [hjj] at hcut HLb HYes
    have hjl : jj ≤ s.i.n := by omega
    have HCk := check_calls _ _ _ hcut.1
    rw [hcut.2] at HCk
    have HCk2 : Hid _ := HCk
    clear hcut HCk hjj
    go_upto_region 17 with (fail)
    clear x8 f8 HLa
    generalize wa.setCell ⟨gd, 8, none⟩ (.slice (some ⟨y3, 0, none⟩) jj (s.i.n + 2)) = wb at *
    have d0 := HLb.out.d 0 (.int .i64 c.letters) rfl
    have d1 := HLb.out.d 1 (.int .i64 c.planes) rfl
    have d2 := HLb.out.d 2 (.int .i64 c.regs) rfl
    have d3 := HLb.out.d 3 (.int .i64 c.lo) rfl
    have d4 := HLb.out.d 4 (.int .i64 c.hi) rfl
    have d5 := HLb.out.d 5 (.int .i64 c.most) rfl
    have d6 := HLb.out.d 6 (.slice (some ⟨y1, 0, none⟩) s.t.n s.t.n) rfl
    have d7 := HLb.out.d 7 (.slice (some ⟨y2, 0, none⟩) s.k.n s.k.n) rfl
    have d8 := HLb.out.d 8 (.slice (some ⟨y3, 0, none⟩) jj (s.i.n + 2)) rfl
    have d9 := HLb.out.d 9 (.slice (some ⟨y4, 0, none⟩) s.r.n s.r.n) rfl
    go_wp2_with fail
    refine Calls.mono HCk2.out ?_
    rintro e wc ⟨rfl, hb⟩
    rw [HYes.out]
    have HBc : Hid (Below w.heap.size w wc) := (HLb.out.next hb).low
    clear hb HLb HCk2 hji
    clear d0 d1 d2 d3 d4 d5 d6 d7 d8 d9
    have n0 : (er != 0) = true := by have := HEn.out; simp [this]
    have n1 : (f != 160) = true := by simp [f1]
    have n2 : (f != 162) = true := by simp [f2]
    have n3 : (f != 163) = true := by simp [f3]
    have n4 : ((j : Int) == (j : Int)) = true := by simp
    have n5 : (er == er) = true := by simp
    clear f1 f2 f3
    go_wp2
    go_ret
    exact ⟨rfl, HBc.out⟩


namespace verifyLocal
open Go.ChangeShapes Go.WideShapes Go.ChangeAt Go.RowKit
open Go.ChangeMaps (open_string shut_string)
theorem own : ownKnob Try.prog.godebug = none := by kernel_rfl
theorem laidOut : laidOutB Try.prog = true := by kernel_rfl
set_option maxRecDepth 100000 in
theorem lifted (os : Os) (started : os.Started) (H : Type) (enc : TypeId × Value → H) :
    ReturnsInHanded {} Try.checked os 5 .any (Rows.verifyLocalSpec.pre6 enc Try.prog Try.f5 Rows.verifyLocalRow.domain false) (Rows.verifyLocalSpec.post enc Try.prog Try.f5 false true false false) := by
  refine returnsInHanded_of_change_sized (C := Try.checked) own started (by kernel_rfl) Try.func5
    (ChangeSpec.witness6 (enc := enc) (C := Try.checked) false ⟨#[], #[.agg #[.int .i64 0, .int .i64 0, .int .i64 0, .int .i64 0, .int .i64 0, .int .i64 0, .slice none 0 0, .slice none 0 0, .slice none 0 0, .slice none 0 0], .int .i64 0], []⟩ 8 (by kernel_rfl) (by kernel_rfl) (by kernel_rfl) (by kernel_rfl)) ?_
  intro W base args ds gs before hval0 hW _ hsz0 _
  have hval : ∀ (j : Nat) t v, Try.f5.params[j]? = some t → args[j]? = some v → Value.okWide Try.prog W .any base t v := hval0
  have hsz : (DataW.weightsEach Try.prog (Try.f5.params.toList ++ Rows.verifyLocalSpec.plain.varTypes Try.prog) (ds ++ gs)).all (· ≤ reachBytes) = true := hsz0
  have hW' := hW
  obtain ⟨p, q, hA0, hV, rfl, hfz, hnd⟩ := hW
  have hA : DataW.TrodAll enc Try.prog W 0 (fun _ => true) true Try.f5.params.toList args.toList ds p := hA0
  rw [Try.params5] at hA hval hsz
  obtain ⟨v0, vs0, d0, ds0, p0, q0, hargs, rfl, rfl, h0, r0⟩ := trodAll_cons hA
  obtain ⟨v1, vs1, d1, ds1, p1, q1, rfl, rfl, rfl, h1, r1⟩ := trodAll_cons r0
  obtain ⟨rfl, rfl, rfl⟩ := trodAll_nil r1
  obtain rfl : args = #[v0, v1] := by cases args; simp_all
  obtain ⟨rfl, rfl⟩ := trodVars_none hV
  have hw : ∀ (j : Nat) (t : TypeId) (d : DataW H), ([26, 3] ++ Rows.verifyLocalSpec.plain.varTypes Try.prog)[j]? = some t → ([d0, d1] ++ [])[j]? = some d → ∀ n ∈ d.weights Try.prog t, n ≤ reachBytes := fun j t d ht hd n hn =>
    of_decide_eq_true (List.all_eq_true.1 hsz _ (DataW.weights_mem_each ht hd n hn))
  obtain ⟨cs0, rfl, hcs0⟩ := okWide_struct Try.underlying26 (hval 0 26 v0 rfl rfl)
  have lt0 : ∀ x ∈ p0, x.block < W.heap.size := by obtain ⟨m, hm⟩ := h0; exact DataW.trod_lt m _ _ _ hm
  obtain ⟨z0, s0, e0, in0⟩ := cd_in hcs0 h0
  subst e0
  obtain ⟨a1, rfl, rfl, rfl, w1⟩ := open_int Try.underlying3 (hval 1 3 v1 rfl rfl) h1
  clear hA0 hval0
  refine (local_walk z0 s0 a1 W in0).mono fun e W' ⟨he, bel⟩ => ?_
  subst he
  exact ⟨_, rfl, _, _, _, [], _, [], hW', trodAll_mk1 (shut_bool Try.underlying4 _), (trodAll_cons_mk (Below.trod laidOut (by kernel_rfl) (of_decide_eq_true (by kernel_rfl)) h0 bel lt0) (trodAll_cons_mk (shut_int Try.underlying3 w1) trodAll_mk0)), rfl, bel.frame _, fun h => by cases h⟩
end verifyLocal

theorem verifyLocal_holds : Rows.VerifyLocalSaid :=
  OpenClaim.holds_of_wide 5 Try.f5 rfl rfl rfl rfl rfl rfl rfl ⟨rfl, rfl, rfl, rfl, rfl⟩ rfl rfl rfl rfl rfl (by kernel_rfl) Try.func5 (by kernel_rfl)
    (of_decide_eq_true (by kernel_rfl)) (by unfold Func.isWrapper; first | (rw [if_pos (by decide +kernel)]; kernel_rfl) | (rw [if_neg (by decide +kernel)]; exact ⟨rfl, rfl⟩))
    (fun os started H enc _ => verifyLocal.lifted os started H enc)

end Go.Proofs.Ytdbfcclmmpcijaa
