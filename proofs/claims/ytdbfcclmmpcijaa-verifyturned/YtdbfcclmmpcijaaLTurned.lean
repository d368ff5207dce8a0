/-
  Registers with other numbers, one for another, and arrows in another order, change nothing of what is told of a code.
-/
import Derived.Test.YtdbfcclmmpcijaaLLocal
import Derived.Test.YtdbfcclmmpcijaaVtP
import Derived.BigRegion
namespace Go.Proofs.Ytdbfcclmmpcijaa
open Go.RowKit

theorem tmod_nat (a b : Nat) : ((a : Int)).tmod (b : Int) = ((a % b : Nat) : Int) := by
  rw [Int.tmod_eq_emod_of_nonneg (by omega)]; rfl
theorem turned_calls (r k R : Nat) (hk : k < R) (hr : r ≤ 65535) (hR : R ≤ 16) (w : World) : Calls Try.prog 16 #[.int .i64 r, .int .i64 k, .int .i64 R] w fun e w' => e = .returned (.int .i64 ((sgN k R r : Nat) : Int)) ∧ w = w' := by
  have hR0 : ¬ (R : Int) = 0 := by omega
  have hR1 : ¬ R = 0 := by omega
  by_cases h : r < R
  · have d1 : decide ((R : Int) ≤ (r : Int)) = false := by simp; omega
    have d2 : decide (R ≤ r) = false := by simp; omega
    have HE : Hid (((sgN k R r : Nat) : Int) = (((r + k) % R : Nat) : Int)) := by show _ = _; unfold sgN; rw [if_pos h]
    have ht : ((r : Int) + (k : Int)).tmod (R : Int) = (((r + k) % R : Nat) : Int) := by
      have := tmod_nat (r + k) R
      rwa [Int.natCast_add] at this
    clear h
    go_enter Try.func16, Try.ntmps16
    go_wp2
    go_ret
    exact ⟨ret_int (by rw [HE.out]; first | exact ht | rfl), rfl⟩
  · have d1 : decide ((R : Int) ≤ (r : Int)) = true := by simp; omega
    have d2 : decide (R ≤ r) = true := by simp; omega
    have HE : Hid (((sgN k R r : Nat) : Int) = (r : Int)) := by show _ = _; unfold sgN; rw [if_neg h]
    clear h
    go_enter Try.func16, Try.ntmps16
    go_wp2
    go_ret
    exact ⟨ret_int HE.out.symm, rfl⟩
def cellC (c : Cd) (l : List Qd) : Cd := ⟨c.letters, c.planes, c.regs, c.lo, c.hi, c.most, c.table, c.consts, l, c.arrows⟩
def arrC (c : Cd) (l : List Qd) : Cd := ⟨c.letters, c.planes, c.regs, c.lo, c.hi, c.most, c.table, c.consts, c.cell, l⟩
section
variable {w W : World} {cs ds : Array Value} {gd g1 g2 g3 g4 : Nat} {c : Cd}
theorem Lw.cset (h : Lw w W cs gd ds c g1 g2 g3 g4) (hg : w.heap.size ≤ g3) {i j : Nat} {a b : Qd} {u : Value} (hi : c.cell[i]? = some a) (hj : j < 4) (he : (qdCells a).set j u = qdCells b) : Lw w (W.setCell ⟨g3, i * 4 + j, none⟩ u) cs gd ds (cellC c (c.cell.set i b)) g1 g2 g3 g4 := by
  have hl : i < c.cell.length := (List.getElem?_eq_some_iff.1 hi).1
  refine ⟨h.low.setCell (p := ⟨g3, i * 4 + j, none⟩) hg u, by rw [heap_setOther _ h.cop.i h.box (by decide)]; exact h.box, by rw [heap_setOther _ h.cop.i h.dbx (by decide)]; exact h.dbx, h.lt, ⟨?_, ?_, ?_, ?_⟩⟩
  · rw [heap_setOther _ h.cop.i h.cop.t (by decide)]; exact h.cop.t
  · rw [heap_setOther _ h.cop.i h.cop.k (by decide)]; exact h.cop.k
  · rw [heap_setCell_same _ _ _ _ _ _ h.cop.i]
    congr 2
    rw [List.setIfInBounds_toArray]
    congr 1
    show (qdVals c.cell ++ _).set (i * 4 + j) u = qdVals (c.cell.set i b) ++ _
    rw [List.set_append_left _ _ (by rw [qdVals_length]; omega)]
    congr 1
    exact flat_set qd_len c.cell i a b j u hi hj he
  · rw [heap_setOther _ h.cop.i h.cop.r (by decide)]; exact h.cop.r
theorem set_at {l : List Qd} {i : Nat} {a b : Qd} (h : l[i]? = some a) : (l.set i b)[i]? = some b := by
  have hl : i < l.length := (List.getElem?_eq_some_iff.1 h).1
  simp [hl]
theorem Lw.cquad (h : Lw w W cs gd ds c g1 g2 g3 g4) (hg : w.heap.size ≤ g3) {i : Nat} {a : Qd} (hi : c.cell[i]? = some a) (o x y z : Int) : Lw w ((((W.setCell ⟨g3, i * 4, none⟩ (.int .i64 o)).setCell ⟨g3, i * 4 + 1, none⟩ (.int .i64 x)).setCell ⟨g3, i * 4 + 2, none⟩ (.int .i64 y)).setCell ⟨g3, i * 4 + 3, none⟩ (.int .i64 z)) cs gd ds (cellC c (c.cell.set i (o, x, y, z))) g1 g2 g3 g4 := by
  have h0 := h.cset hg (j := 0) (u := .int .i64 o) hi (by omega) (b := (o, a.2.1, a.2.2.1, a.2.2.2)) rfl
  have h1 := h0.cset hg (j := 1) (u := .int .i64 x) (set_at hi) (by omega) (b := (o, x, a.2.2.1, a.2.2.2)) rfl
  have h2 := h1.cset hg (j := 2) (u := .int .i64 y) (set_at (set_at hi)) (by omega) (b := (o, x, y, a.2.2.2)) rfl
  have h3 := h2.cset hg (j := 3) (u := .int .i64 z) (set_at (set_at (set_at hi))) (by omega) (b := (o, x, y, z)) rfl
  simp only [cellC, List.set_set] at h3
  exact h3
theorem Lw.aset (h : Lw w W cs gd ds c g1 g2 g3 g4) (hg : w.heap.size ≤ g4) {i j : Nat} {a b : Qd} {u : Value} (hi : c.arrows[i]? = some a) (hj : j < 4) (he : (qdCells a).set j u = qdCells b) : Lw w (W.setCell ⟨g4, i * 4 + j, none⟩ u) cs gd ds (arrC c (c.arrows.set i b)) g1 g2 g3 g4 := by
  refine ⟨h.low.setCell (p := ⟨g4, i * 4 + j, none⟩) hg u, by rw [heap_setOther _ h.cop.r h.box (by decide)]; exact h.box, by rw [heap_setOther _ h.cop.r h.dbx (by decide)]; exact h.dbx, h.lt, ⟨?_, ?_, ?_, ?_⟩⟩
  · rw [heap_setOther _ h.cop.r h.cop.t (by decide)]; exact h.cop.t
  · rw [heap_setOther _ h.cop.r h.cop.k (by decide)]; exact h.cop.k
  · rw [heap_setOther _ h.cop.r h.cop.i (by decide)]; exact h.cop.i
  · rw [heap_setCell_same _ _ _ _ _ _ h.cop.r]
    congr 2
    rw [List.setIfInBounds_toArray]
    congr 1
    exact flat_set qd_len c.arrows i a b j u hi hj he
theorem Lw.aquad (h : Lw w W cs gd ds c g1 g2 g3 g4) (hg : w.heap.size ≤ g4) {i : Nat} {a : Qd} (hi : c.arrows[i]? = some a) (o x y z : Int) : Lw w ((((W.setCell ⟨g4, i * 4, none⟩ (.int .i64 o)).setCell ⟨g4, i * 4 + 1, none⟩ (.int .i64 x)).setCell ⟨g4, i * 4 + 2, none⟩ (.int .i64 y)).setCell ⟨g4, i * 4 + 3, none⟩ (.int .i64 z)) cs gd ds (arrC c (c.arrows.set i (o, x, y, z))) g1 g2 g3 g4 := by
  have h0 := h.aset hg (j := 0) (u := .int .i64 o) hi (by omega) (b := (o, a.2.1, a.2.2.1, a.2.2.2)) rfl
  have h1 := h0.aset hg (j := 1) (u := .int .i64 x) (set_at hi) (by omega) (b := (o, x, a.2.2.1, a.2.2.2)) rfl
  have h2 := h1.aset hg (j := 2) (u := .int .i64 y) (set_at (set_at hi)) (by omega) (b := (o, x, y, a.2.2.2)) rfl
  have h3 := h2.aset hg (j := 3) (u := .int .i64 z) (set_at (set_at (set_at hi))) (by omega) (b := (o, x, y, z)) rfl
  simp only [arrC, List.set_set] at h3
  exact h3
theorem Lw.icell (h : Lw w W cs gd ds c g1 g2 g3 g4) {i j : Nat} {a : Qd} {u : Value} (hi : c.cell[i]? = some a) (he : (qdCells a)[j]? = some u) : W.cell? ⟨g3, i * 4 + j, none⟩ = some u ∧ W.frozen? ⟨g3, i * 4 + j, none⟩ = false := by
  refine ⟨cell_block h.cop.i _ _ ?_, frozen_of_row _ _ _ _ _ h.cop.i⟩
  have h1 := flat_get qd_len c.cell i a j u hi he
  have h2 : i * 4 + j < (qdVals c.cell).length := (List.getElem?_eq_some_iff.1 h1).1
  rw [List.getElem?_toArray]
  show (qdVals c.cell ++ _)[i * 4 + j]? = some u
  rw [List.getElem?_append_left h2]; exact h1
theorem Lw.rcell (h : Lw w W cs gd ds c g1 g2 g3 g4) {i j : Nat} {a : Qd} {u : Value} (hi : c.arrows[i]? = some a) (he : (qdCells a)[j]? = some u) : W.cell? ⟨g4, i * 4 + j, none⟩ = some u ∧ W.frozen? ⟨g4, i * 4 + j, none⟩ = false :=
  ⟨cell_block h.cop.r _ _ (by rw [List.getElem?_toArray]; exact flat_get qd_len c.arrows i a j u hi he), frozen_of_row _ _ _ _ _ h.cop.r⟩
end
def mixL (f : Qd → Qd) (l : List Qd) (j : Nat) : List Qd := (l.take j).map f ++ l.drop j
theorem mix_get {f : Qd → Qd} {l : List Qd} {j : Nat} {q : Qd} (h : l[j]? = some q) : (mixL f l j)[j]? = some q := by
  have hl : j < l.length := (List.getElem?_eq_some_iff.1 h).1
  unfold mixL
  have e : ((l.take j).map f).length = j := by simp; omega
  rw [List.getElem?_append_right (by omega), e, Nat.sub_self, List.getElem?_drop, Nat.add_zero]; exact h
theorem mix_set {f : Qd → Qd} {l : List Qd} {j : Nat} {q : Qd} (h : l[j]? = some q) : (mixL f l j).set j (f q) = mixL f l (j + 1) := by
  have hl : j < l.length := (List.getElem?_eq_some_iff.1 h).1
  unfold mixL
  have e : ((l.take j).map f).length = j := by simp; omega
  rw [List.set_append_right _ _ (by omega), e, Nat.sub_self, take_snoc h, List.map_append, List.append_assoc]
  congr 1
  rw [List.drop_eq_getElem_cons hl]
  rw [List.getElem?_eq_getElem hl] at h
  cases h; rfl
theorem mix_len (f : Qd → Qd) (l : List Qd) (j : Nat) : (mixL f l j).length = l.length := by unfold mixL; simp; omega
theorem mix_all (f : Qd → Qd) (l : List Qd) : mixL f l l.length = l.map f := by unfold mixL; simp
def revL (l : List Qd) (i : Nat) : List Qd := l.take (l.length - i) ++ (l.take i).reverse
theorem rev_len (l : List Qd) (i : Nat) (h : i ≤ l.length) : (revL l i).length = l.length := by unfold revL; simp; omega
theorem rev_zero (l : List Qd) : revL l 0 = l := by unfold revL; simp
theorem rev_all (l : List Qd) : revL l l.length = l.reverse := by unfold revL; simp
theorem rev_set {l : List Qd} {i m : Nat} {a : Qd} (h : l[i]? = some a) (hm : l.length - (i + 1) = m) : (revL l i).set m a = revL l (i + 1) := by
  have hl : i < l.length := (List.getElem?_eq_some_iff.1 h).1
  unfold revL
  have e : l.length - i = m + 1 := by omega
  have hml : m < l.length := by omega
  rw [e, hm, take_snoc h, List.reverse_append, List.take_succ_eq_append_getElem hml, List.append_assoc, List.set_append_right _ _ (by simp; omega)]
  congr 1
  have e2 : m - (l.take m).length = 0 := by simp; omega
  rw [e2]; rfl
theorem rev_get {l : List Qd} {i m : Nat} (hi : i < l.length) (hm : l.length - (i + 1) = m) : ∃ b, (revL l i)[m]? = some b := get_lt (by rw [rev_len l i (by omega)]; omega)
theorem tmod_bdR (a : Int) (R : Nat) (h : 0 < R) : -(R : Int) < a.tmod (R : Int) ∧ a.tmod (R : Int) < (R : Int) :=
  ⟨Int.lt_tmod_of_pos a (by omega), Int.tmod_lt_of_pos a (by omega)⟩
set_option maxRecDepth 20000 in
set_option maxHeartbeats 4000000 in
theorem turned_walk (c : Cd) (s : Ls) (a : Int) (w : World) (hc : CdIn w c s) :
    Calls Try.prog 6 #[.agg (cdCells c s), .int .i64 a] w fun e w' => e = .returned (.bool true) ∧ Below w.heap.size w w' := by
  have HI : Hid (CdIn w c s) := hc
  have HC : Hid (CdAt w c s) := hc.at'
  clear hc
  have HX : Hid (Bx w (cdCells c s) (w.alloc (.cells #[.int .i64 c.letters, .int .i64 c.planes, .int .i64 c.regs, .int .i64 c.lo, .int .i64 c.hi, .int .i64 c.most, .slice s.t.a s.t.n s.t.c, .slice s.k.a s.k.n s.k.c, .slice s.i.a s.i.n s.i.c, .slice s.r.a s.r.n s.r.c] 26))) := Bx.start w _
  rw [show cdCells c s = #[.int .i64 c.letters, .int .i64 c.planes, .int .i64 c.regs, .int .i64 c.lo, .int .i64 c.hi, .int .i64 c.most, .slice s.t.a s.t.n s.t.c, .slice s.k.a s.k.n s.k.c, .slice s.i.a s.i.n s.i.c, .slice s.r.a s.r.n s.r.c] from rfl]
  go_enter Try.func6, Try.ntmps6
  go_wp2_with fail
  refine (weighs_calls c s _ (HC.out.below HX.out.low)).mono ?_
  rintro e w1 ⟨⟨z1, rfl, hz1⟩, hb⟩
  have HX1 : Hid (Bx w (cdCells c s) w1) := HX.out.next hb
  clear hb HX
  by_cases g1 : 2147483647 < z1
  · go_wp2
    go_ret
    exact ⟨rfl, HX1.out.low⟩
  have HZ : Hid (s.t.n ≤ 2147483647 ∧ s.k.n ≤ 2147483647 ∧ s.i.n ≤ 2147483647 ∧ s.r.n ≤ 2147483647) := hz1 (by omega)
  go_wp2_with fail
  refine (awake_calls w1).mono ?_
  rintro e w2 ⟨rfl, hb⟩
  have HX2 : Hid (Bx w (cdCells c s) w2) := HX1.out.next hb
  clear hb HX1 g1 hz1
  have c0 := HX2.out.cell 0 (.int .i64 c.letters) rfl
  have c1 := HX2.out.cell 1 (.int .i64 c.planes) rfl
  have c2 := HX2.out.cell 2 (.int .i64 c.regs) rfl
  have c3 := HX2.out.cell 3 (.int .i64 c.lo) rfl
  have c4 := HX2.out.cell 4 (.int .i64 c.hi) rfl
  have c5 := HX2.out.cell 5 (.int .i64 c.most) rfl
  have c6 := HX2.out.cell 6 (.slice s.t.a s.t.n s.t.c) rfl
  have c7 := HX2.out.cell 7 (.slice s.k.a s.k.n s.k.c) rfl
  have c8 := HX2.out.cell 8 (.slice s.i.a s.i.n s.i.c) rfl
  have c9 := HX2.out.cell 9 (.slice s.r.a s.r.n s.r.c) rfl
  go_wp2_with fail
  refine (check_calls c s _ (HC.out.below HX2.out.low)).mono ?_
  rintro e w3 ⟨rfl, hb⟩
  have HX3 : Hid (Bx w (cdCells c s) w3) := HX2.out.next hb
  clear hb HX2
  clear c0 c1 c2 c3 c4 c5 c6 c7 c8 c9
  have c0 := HX3.out.cell 0 (.int .i64 c.letters) rfl
  have c1 := HX3.out.cell 1 (.int .i64 c.planes) rfl
  have c2 := HX3.out.cell 2 (.int .i64 c.regs) rfl
  have c3 := HX3.out.cell 3 (.int .i64 c.lo) rfl
  have c4 := HX3.out.cell 4 (.int .i64 c.hi) rfl
  have c5 := HX3.out.cell 5 (.int .i64 c.most) rfl
  have c6 := HX3.out.cell 6 (.slice s.t.a s.t.n s.t.c) rfl
  have c7 := HX3.out.cell 7 (.slice s.k.a s.k.n s.k.c) rfl
  have c8 := HX3.out.cell 8 (.slice s.i.a s.i.n s.i.c) rfl
  have c9 := HX3.out.cell 9 (.slice s.r.a s.r.n s.r.c) rfl
  go_wp2_with fail
  refine (rightR_calls c s _ (HC.out.below HX3.out.low)).mono ?_
  rintro e w4 ⟨rfl, hb⟩
  have HX4 : Hid (Bx w (cdCells c s) w4) := HX3.out.next hb
  clear hb HX3
  clear c0 c1 c2 c3 c4 c5 c6 c7 c8 c9
  obtain ⟨r1, h1⟩ : ∃ r, rightB c = r := ⟨_, rfl⟩
  have H1 : Hid (rightB c = r1) := h1
  rw [h1]
  clear h1
  cases r1
  · have HE : Hid (chkB c = (-1, 160)) := chk0 H1.out
    rw [HE.out]
    go_wp2
    go_ret
    exact ⟨rfl, HX4.out.low⟩
  obtain ⟨at1, hat⟩ : ∃ x, (chkB c).1 = x := ⟨_, rfl⟩
  obtain ⟨er, her⟩ : ∃ x, (chkB c).2 = x := ⟨_, rfl⟩
  have HAE : Hid (chkB c = (at1, er)) := Prod.ext hat her
  rw [hat, her]
  clear hat her
  have HRt : Hid (Rt c) := rt_of H1.out
  obtain ⟨R, hR⟩ : ∃ R : Nat, c.regs = R := ⟨c.regs.toNat, by have := HRt.out.regs; omega⟩
  have hR0 : 0 < R := by have := HRt.out.regs; omega
  have hR16 : R ≤ 16 := by have := HRt.out.regs; omega
  have HRg : Hid (c.regs = R) := hR
  have p2 : w4.cell? ⟨w.heap.size, 2, none⟩ = some (.int .i64 R) := by have := HX4.out.cell 2 (.int .i64 c.regs) rfl; rwa [hR] at this
  have hRn : ¬ (R : Int) = 0 := by omega
  have hRm : ¬ R = 0 := by omega
  clear hR
  have htm := tmod_bdR a R hR0
  obtain ⟨K, hK⟩ : ∃ K, a.tmod (R : Int) = K := ⟨_, rfl⟩
  rw [hK] at htm
  obtain ⟨t1, t2⟩ := htm
  go_upto_if 45 with (fail)
  go_cut [10] (fun v wc => (∃ kk : Nat, kk < R ∧ v = .int .i64 kk) ∧ w4 = wc)
  case first =>
    by_cases hneg : K < 0
    · have hnd : decide (K < 0) = true := by simpa using hneg
      obtain ⟨kk, hkk⟩ : ∃ kk : Nat, K + (R : Int) = (kk : Int) := ⟨(K + (R : Int)).toNat, by omega⟩
      go_wp2
      go_meet
      exact ⟨⟨kk, by omega, by first | rw [hkk] | rfl⟩, rfl⟩
    · have hnd : decide (K < 0) = false := by simpa using hneg
      obtain ⟨kk, rfl⟩ : ∃ kk : Nat, K = (kk : Int) := ⟨K.toNat, by omega⟩
      go_wp2
      go_meet
      exact ⟨⟨kk, by omega, rfl⟩, rfl⟩
  case rest =>
    obtain ⟨⟨kk, hkk, rfl⟩, rfl⟩ := hcut
    clear hK t1 t2 K
    have HN : Hid (c.table.length = s.t.n ∧ c.consts.length = s.k.n ∧ c.cell.length = s.i.n ∧ c.arrows.length = s.r.n) := ⟨HC.out.table.length, HC.out.consts.length, HC.out.cell.length, HC.out.arrows.length⟩
    have HM : Hid (c.table.length ≤ maxLen ∧ c.consts.length ≤ maxLen ∧ c.cell.length ≤ maxLen ∧ c.arrows.length ≤ maxLen) := by
      obtain ⟨l1, l2, l3, l4⟩ := HN.out
      obtain ⟨m1, m2, m3, m4⟩ := HZ.out
      unfold maxLen
      exact ⟨by omega, by omega, by omega, by omega⟩
    have hn3 : s.i.n ≤ 2147483647 := HZ.out.2.2.1
    have hn4 : s.r.n ≤ 2147483647 := HZ.out.2.2.2
    have HCop : Hid (∀ x1 x2 x3 x4, cdCells c (copS c x1 x2 x3 x4) = #[.int .i64 c.letters, .int .i64 c.planes, .int .i64 c.regs, .int .i64 c.lo, .int .i64 c.hi, .int .i64 c.most, .slice (some ⟨x1, 0, none⟩) s.t.n s.t.n, .slice (some ⟨x2, 0, none⟩) s.k.n s.k.n, .slice (some ⟨x3, 0, none⟩) s.i.n (s.i.n + 2), .slice (some ⟨x4, 0, none⟩) s.r.n s.r.n]) := fun x1 x2 x3 x4 => by
      obtain ⟨l1, l2, l3, l4⟩ := HN.out
      simp only [cdCells, copS, l1, l2, l3, l4]
    clear p2
    have c0 := HX4.out.cell 0 (.int .i64 c.letters) rfl
    have c1 := HX4.out.cell 1 (.int .i64 c.planes) rfl
    have c2 := HX4.out.cell 2 (.int .i64 c.regs) rfl
    have c3 := HX4.out.cell 3 (.int .i64 c.lo) rfl
    have c4 := HX4.out.cell 4 (.int .i64 c.hi) rfl
    have c5 := HX4.out.cell 5 (.int .i64 c.most) rfl
    have c6 := HX4.out.cell 6 (.slice s.t.a s.t.n s.t.c) rfl
    have c7 := HX4.out.cell 7 (.slice s.k.a s.k.n s.k.c) rfl
    have c8 := HX4.out.cell 8 (.slice s.i.a s.i.n s.i.c) rfl
    have c9 := HX4.out.cell 9 (.slice s.r.a s.r.n s.r.c) rfl
    go_wp2_with fail
    refine (copied_calls c s _ ⟨HC.out.below HX4.out.low, HI.out.t, HI.out.k, HI.out.i, HI.out.r⟩ HZ.out).mono ?_
    rintro e w5 ⟨x1, x2, x3, x4, rfl, hcop, hge, hb⟩
    rw [HCop.out]
    have HL6 : Hid (Lw w (w5.alloc (.cells #[.int .i64 c.letters, .int .i64 c.planes, .int .i64 c.regs, .int .i64 c.lo, .int .i64 c.hi, .int .i64 c.most, .slice (some ⟨x1, 0, none⟩) s.t.n s.t.n, .slice (some ⟨x2, 0, none⟩) s.k.n s.k.n, .slice (some ⟨x3, 0, none⟩) s.i.n (s.i.n + 2), .slice (some ⟨x4, 0, none⟩) s.r.n s.r.n] 26)) (cdCells c s) w5.heap.size #[.int .i64 c.letters, .int .i64 c.planes, .int .i64 c.regs, .int .i64 c.lo, .int .i64 c.hi, .int .i64 c.most, .slice (some ⟨x1, 0, none⟩) s.t.n s.t.n, .slice (some ⟨x2, 0, none⟩) s.k.n s.k.n, .slice (some ⟨x3, 0, none⟩) s.i.n (s.i.n + 2), .slice (some ⟨x4, 0, none⟩) s.r.n s.r.n] (cellC c (mixL (tnQ kk R) c.cell 0)) x1 x2 x3 x4) :=
      ⟨below_alA (HX4.out.next hb).low _, row_next (HX4.out.next hb).box (below_new _), heap_alloc_new _ _, (HX4.out.next hb).size, hcop.next (below_new _)⟩
    have HGe : Hid (w.heap.size ≤ x3 ∧ w.heap.size ≤ x4) := ⟨Nat.le_trans HX4.out.low.size hge.2.2.1, Nat.le_trans HX4.out.low.size hge.2.2.2⟩
    clear hcop hge hb HX4
    clear c0 c1 c2 c3 c4 c5 c6 c7 c8 c9
    go_upto_region 13 with (fail)
    generalize w5.alloc (.cells #[.int .i64 c.letters, .int .i64 c.planes, .int .i64 c.regs, .int .i64 c.lo, .int .i64 c.hi, .int .i64 c.most, .slice (some ⟨x1, 0, none⟩) s.t.n s.t.n, .slice (some ⟨x2, 0, none⟩) s.k.n s.k.n, .slice (some ⟨x3, 0, none⟩) s.i.n (s.i.n + 2), .slice (some ⟨x4, 0, none⟩) s.r.n s.r.n] 26) = w6 at *
    generalize w5.heap.size = gd at *
    go_wp2
    go_loopw [12, 13] (fun i _ wr => ∃ j : Nat, j ≤ s.i.n ∧ i = .int .i64 j ∧ Lw w wr (cdCells c s) gd #[.int .i64 c.letters, .int .i64 c.planes, .int .i64 c.regs, .int .i64 c.lo, .int .i64 c.hi, .int .i64 c.most, .slice (some ⟨x1, 0, none⟩) s.t.n s.t.n, .slice (some ⟨x2, 0, none⟩) s.k.n s.k.n, .slice (some ⟨x3, 0, none⟩) s.i.n (s.i.n + 2), .slice (some ⟨x4, 0, none⟩) s.r.n s.r.n] (cellC c (mixL (tnQ kk R) c.cell j)) x1 x2 x3 x4) (fun i _ _ => s.i.n - (intOf i).toNat)
    case atStart => exact ⟨0, Nat.zero_le _, rfl, HL6.out⟩
    case round =>
      obtain ⟨j, hj, rfl, hl⟩ := hrel
      have HLr : Hid (Lw w wr (cdCells c s) gd #[.int .i64 c.letters, .int .i64 c.planes, .int .i64 c.regs, .int .i64 c.lo, .int .i64 c.hi, .int .i64 c.most, .slice (some ⟨x1, 0, none⟩) s.t.n s.t.n, .slice (some ⟨x2, 0, none⟩) s.k.n s.k.n, .slice (some ⟨x3, 0, none⟩) s.i.n (s.i.n + 2), .slice (some ⟨x4, 0, none⟩) s.r.n s.r.n] (cellC c (mixL (tnQ kk R) c.cell j)) x1 x2 x3 x4) := hl
      clear hl HL6
      have y8 := HLr.out.d 8 (.slice (some ⟨x3, 0, none⟩) s.i.n (s.i.n + 2)) rfl
      by_cases hlt : j < s.i.n
      · obtain ⟨q, hq⟩ := get_lt (l := c.cell) (k := j) (by rw [HN.out.2.2.1]; exact hlt)
        have hqr := HRt.out.cell q (List.mem_of_getElem? hq)
        obtain ⟨o, x, y, z⟩ := q
        simp only at hqr
        obtain ⟨x, rfl⟩ : ∃ n : Nat, x = n := ⟨x.toNat, by omega⟩
        obtain ⟨y, rfl⟩ : ∃ n : Nat, y = n := ⟨y.toNat, by omega⟩
        obtain ⟨z, rfl⟩ : ∃ n : Nat, z = n := ⟨z.toNat, by omega⟩
        have HQ : Hid (c.cell[j]? = some (o, (x : Int), (y : Int), (z : Int))) := hq
        have HQb : Hid (x ≤ 65535 ∧ y ≤ 65535) := ⟨by omega, by omega⟩
        obtain ⟨v0, u0⟩ := HLr.out.icell (j := 0) (mix_get (f := tnQ kk R) hq) rfl
        obtain ⟨v1, u1⟩ := HLr.out.icell (j := 1) (mix_get (f := tnQ kk R) hq) rfl
        obtain ⟨v2, u2⟩ := HLr.out.icell (j := 2) (mix_get (f := tnQ kk R) hq) rfl
        obtain ⟨v3, u3⟩ := HLr.out.icell (j := 3) (mix_get (f := tnQ kk R) hq) rfl
        rw [Nat.add_zero] at v0 u0
        simp only [] at v0 v1 v2 v3
        have p2 : wr.cell? ⟨w.heap.size, 2, none⟩ = some (.int .i64 R) := by have := HLr.out.cell 2 (.int .i64 c.regs) rfl; rwa [HRg.out] at this
        have hlx := lt_block HLr.out.cop.i
        have hlw := lt_block HLr.out.box
        have hlg := lt_block HLr.out.dbx
        clear hq hqr
        by_cases h7 : o = 7
        · have d7 : (o == 7) = true := by simp [h7]
          have d6 : (o == 6) = false := by simp [h7]
          have e7 : (o != 7) = false := by simp [h7]
          have HLn : Hid (Lw w (((((wr.setCell ⟨x3, j * 4, none⟩ (.int .i64 o)).setCell ⟨x3, j * 4 + 1, none⟩ (.int .i64 (x : Int))).setCell ⟨x3, j * 4 + 2, none⟩ (.int .i64 ((sgN kk R y : Nat) : Int))).setCell ⟨x3, j * 4 + 3, none⟩ (.int .i64 z)).alloc (.cells #[.int .i64 o, .int .i64 (x : Int), .int .i64 ((sgN kk R y : Nat) : Int), .int .i64 z] 35)) (cdCells c s) gd #[.int .i64 c.letters, .int .i64 c.planes, .int .i64 c.regs, .int .i64 c.lo, .int .i64 c.hi, .int .i64 c.most, .slice (some ⟨x1, 0, none⟩) s.t.n s.t.n, .slice (some ⟨x2, 0, none⟩) s.k.n s.k.n, .slice (some ⟨x3, 0, none⟩) s.i.n (s.i.n + 2), .slice (some ⟨x4, 0, none⟩) s.r.n s.r.n] (cellC c (mixL (tnQ kk R) c.cell (j + 1))) x1 x2 x3 x4) := by
            have h1 := HLr.out.cquad HGe.out.1 (mix_get (f := tnQ kk R) HQ.out) o (x : Int) ((sgN kk R y : Nat) : Int) z
            have h2 := mix_set (f := tnQ kk R) HQ.out
            rw [show tnQ kk R (o, (x : Int), (y : Int), (z : Int)) = (o, (x : Int), ((sgN kk R y : Nat) : Int), (z : Int)) by simp [tnQ, h7]] at h2
            show Lw w _ (cdCells c s) gd #[.int .i64 c.letters, .int .i64 c.planes, .int .i64 c.regs, .int .i64 c.lo, .int .i64 c.hi, .int .i64 c.most, .slice (some ⟨x1, 0, none⟩) s.t.n s.t.n, .slice (some ⟨x2, 0, none⟩) s.k.n s.k.n, .slice (some ⟨x3, 0, none⟩) s.i.n (s.i.n + 2), .slice (some ⟨x4, 0, none⟩) s.r.n s.r.n] _ x1 x2 x3 x4
            rw [← h2]
            exact (h1.next (below_new _))
          clear HLr h7
          go_wp2_with (go_at_call 16; refine (turned_calls _ _ _ hkk HQb.out.2 hR16 _).mono ?_; rintro e w1 ⟨rfl, rfl⟩)
          go_roundw
          case rel => exact ⟨j + 1, by omega, by go_num, HLn.out⟩
          case measure => simp [intOf]; omega
        by_cases h8 : o = 8
        · have d7 : (o == 7) = false := by simp [h8]
          have d6 : (o == 6) = false := by simp [h8]
          have e7 : (o != 7) = true := by simp [h8]
          have e8 : (o != 8) = false := by simp [h8]
          have HLn : Hid (Lw w (((((wr.setCell ⟨x3, j * 4, none⟩ (.int .i64 o)).setCell ⟨x3, j * 4 + 1, none⟩ (.int .i64 (x : Int))).setCell ⟨x3, j * 4 + 2, none⟩ (.int .i64 (y : Int))).setCell ⟨x3, j * 4 + 3, none⟩ (.int .i64 z)).alloc (.cells #[.int .i64 o, .int .i64 (x : Int), .int .i64 (y : Int), .int .i64 z] 35)) (cdCells c s) gd #[.int .i64 c.letters, .int .i64 c.planes, .int .i64 c.regs, .int .i64 c.lo, .int .i64 c.hi, .int .i64 c.most, .slice (some ⟨x1, 0, none⟩) s.t.n s.t.n, .slice (some ⟨x2, 0, none⟩) s.k.n s.k.n, .slice (some ⟨x3, 0, none⟩) s.i.n (s.i.n + 2), .slice (some ⟨x4, 0, none⟩) s.r.n s.r.n] (cellC c (mixL (tnQ kk R) c.cell (j + 1))) x1 x2 x3 x4) := by
            have h1 := HLr.out.cquad HGe.out.1 (mix_get (f := tnQ kk R) HQ.out) o (x : Int) (y : Int) z
            have h2 := mix_set (f := tnQ kk R) HQ.out
            rw [show tnQ kk R (o, (x : Int), (y : Int), (z : Int)) = (o, (x : Int), (y : Int), (z : Int)) by simp [tnQ, h8]] at h2
            show Lw w _ (cdCells c s) gd #[.int .i64 c.letters, .int .i64 c.planes, .int .i64 c.regs, .int .i64 c.lo, .int .i64 c.hi, .int .i64 c.most, .slice (some ⟨x1, 0, none⟩) s.t.n s.t.n, .slice (some ⟨x2, 0, none⟩) s.k.n s.k.n, .slice (some ⟨x3, 0, none⟩) s.i.n (s.i.n + 2), .slice (some ⟨x4, 0, none⟩) s.r.n s.r.n] _ x1 x2 x3 x4
            rw [← h2]
            exact (h1.next (below_new _))
          clear HLr h7 h8
          go_wp2
          go_roundw
          case rel => exact ⟨j + 1, by omega, by go_num, HLn.out⟩
          case measure => simp [intOf]; omega
        by_cases h6 : o = 6
        · have d6 : (o == 6) = true := by simp [h6]
          have e7 : (o != 7) = true := by simp [h6]
          have e8 : (o != 8) = true := by simp [h6]
          have HLn : Hid (Lw w (((((wr.setCell ⟨x3, j * 4, none⟩ (.int .i64 o)).setCell ⟨x3, j * 4 + 1, none⟩ (.int .i64 ((sgN kk R x : Nat) : Int))).setCell ⟨x3, j * 4 + 2, none⟩ (.int .i64 ((sgN kk R y : Nat) : Int))).setCell ⟨x3, j * 4 + 3, none⟩ (.int .i64 z)).alloc (.cells #[.int .i64 o, .int .i64 ((sgN kk R x : Nat) : Int), .int .i64 ((sgN kk R y : Nat) : Int), .int .i64 z] 35)) (cdCells c s) gd #[.int .i64 c.letters, .int .i64 c.planes, .int .i64 c.regs, .int .i64 c.lo, .int .i64 c.hi, .int .i64 c.most, .slice (some ⟨x1, 0, none⟩) s.t.n s.t.n, .slice (some ⟨x2, 0, none⟩) s.k.n s.k.n, .slice (some ⟨x3, 0, none⟩) s.i.n (s.i.n + 2), .slice (some ⟨x4, 0, none⟩) s.r.n s.r.n] (cellC c (mixL (tnQ kk R) c.cell (j + 1))) x1 x2 x3 x4) := by
            have h1 := HLr.out.cquad HGe.out.1 (mix_get (f := tnQ kk R) HQ.out) o ((sgN kk R x : Nat) : Int) ((sgN kk R y : Nat) : Int) z
            have h2 := mix_set (f := tnQ kk R) HQ.out
            rw [show tnQ kk R (o, (x : Int), (y : Int), (z : Int)) = (o, ((sgN kk R x : Nat) : Int), ((sgN kk R y : Nat) : Int), (z : Int)) by simp [tnQ, h6]] at h2
            show Lw w _ (cdCells c s) gd #[.int .i64 c.letters, .int .i64 c.planes, .int .i64 c.regs, .int .i64 c.lo, .int .i64 c.hi, .int .i64 c.most, .slice (some ⟨x1, 0, none⟩) s.t.n s.t.n, .slice (some ⟨x2, 0, none⟩) s.k.n s.k.n, .slice (some ⟨x3, 0, none⟩) s.i.n (s.i.n + 2), .slice (some ⟨x4, 0, none⟩) s.r.n s.r.n] _ x1 x2 x3 x4
            rw [← h2]
            exact (h1.next (below_new _))
          clear HLr h7 h8 h6
          go_wp2_with fail
          refine (turned_calls x kk R hkk HQb.out.1 hR16 _).mono ?_
          rintro e w1 ⟨rfl, rfl⟩
          go_wp2_with fail
          refine (turned_calls y kk R hkk HQb.out.2 hR16 _).mono ?_
          rintro e w1 ⟨rfl, rfl⟩
          go_wp2
          go_roundw
          case rel => exact ⟨j + 1, by omega, by go_num, HLn.out⟩
          case measure => simp [intOf]; omega
        have d7 : (o == 7) = false := by simp [h7]
        have d6 : (o == 6) = false := by simp [h6]
        have e7 : (o != 7) = true := by simp [h7]
        have e8 : (o != 8) = true := by simp [h8]
        have HLn : Hid (Lw w (((((wr.setCell ⟨x3, j * 4, none⟩ (.int .i64 o)).setCell ⟨x3, j * 4 + 1, none⟩ (.int .i64 ((sgN kk R x : Nat) : Int))).setCell ⟨x3, j * 4 + 2, none⟩ (.int .i64 (y : Int))).setCell ⟨x3, j * 4 + 3, none⟩ (.int .i64 z)).alloc (.cells #[.int .i64 o, .int .i64 ((sgN kk R x : Nat) : Int), .int .i64 (y : Int), .int .i64 z] 35)) (cdCells c s) gd #[.int .i64 c.letters, .int .i64 c.planes, .int .i64 c.regs, .int .i64 c.lo, .int .i64 c.hi, .int .i64 c.most, .slice (some ⟨x1, 0, none⟩) s.t.n s.t.n, .slice (some ⟨x2, 0, none⟩) s.k.n s.k.n, .slice (some ⟨x3, 0, none⟩) s.i.n (s.i.n + 2), .slice (some ⟨x4, 0, none⟩) s.r.n s.r.n] (cellC c (mixL (tnQ kk R) c.cell (j + 1))) x1 x2 x3 x4) := by
          have h1 := HLr.out.cquad HGe.out.1 (mix_get (f := tnQ kk R) HQ.out) o ((sgN kk R x : Nat) : Int) (y : Int) z
          have h2 := mix_set (f := tnQ kk R) HQ.out
          rw [show tnQ kk R (o, (x : Int), (y : Int), (z : Int)) = (o, ((sgN kk R x : Nat) : Int), (y : Int), (z : Int)) by simp [tnQ, h7, h8, h6]] at h2
          show Lw w _ (cdCells c s) gd #[.int .i64 c.letters, .int .i64 c.planes, .int .i64 c.regs, .int .i64 c.lo, .int .i64 c.hi, .int .i64 c.most, .slice (some ⟨x1, 0, none⟩) s.t.n s.t.n, .slice (some ⟨x2, 0, none⟩) s.k.n s.k.n, .slice (some ⟨x3, 0, none⟩) s.i.n (s.i.n + 2), .slice (some ⟨x4, 0, none⟩) s.r.n s.r.n] _ x1 x2 x3 x4
          rw [← h2]
          exact (h1.next (below_new _))
        clear HLr h7 h8 h6
        go_wp2_with (go_at_call 16; refine (turned_calls _ _ _ hkk HQb.out.1 hR16 _).mono ?_; rintro e w1 ⟨rfl, rfl⟩)
        go_roundw
        case rel => exact ⟨j + 1, by omega, by go_num, HLn.out⟩
        case measure => simp [intOf]; omega
      · obtain rfl : s.i.n = j := by omega
        have HL0 : Hid (Lw w wr (cdCells c s) gd #[.int .i64 c.letters, .int .i64 c.planes, .int .i64 c.regs, .int .i64 c.lo, .int .i64 c.hi, .int .i64 c.most, .slice (some ⟨x1, 0, none⟩) s.t.n s.t.n, .slice (some ⟨x2, 0, none⟩) s.k.n s.k.n, .slice (some ⟨x3, 0, none⟩) s.i.n (s.i.n + 2), .slice (some ⟨x4, 0, none⟩) s.r.n s.r.n] (arrC (cellC c (c.cell.map (tnQ kk R))) (revL c.arrows 0)) x1 x2 x3 x4) := by
          have h1 := HLr.out
          have h2 := mix_all (tnQ kk R) c.cell
          rw [HN.out.2.2.1] at h2
          rw [h2] at h1
          rw [rev_zero]
          exact h1
        obtain ⟨wo, hwo⟩ : ∃ W, W = wr := ⟨wr, rfl⟩
        rw [← hwo] at HL0 y8 ⊢
        clear hwo HLr hlt hj
        clear wr
        go_wp2
        clear y8
        go_loopw [14] (fun i wr => ∃ j : Nat, j ≤ s.r.n ∧ i = .int .i64 j ∧ Lw w wr (cdCells c s) gd #[.int .i64 c.letters, .int .i64 c.planes, .int .i64 c.regs, .int .i64 c.lo, .int .i64 c.hi, .int .i64 c.most, .slice (some ⟨x1, 0, none⟩) s.t.n s.t.n, .slice (some ⟨x2, 0, none⟩) s.k.n s.k.n, .slice (some ⟨x3, 0, none⟩) s.i.n (s.i.n + 2), .slice (some ⟨x4, 0, none⟩) s.r.n s.r.n] (arrC (cellC c (c.cell.map (tnQ kk R))) (revL c.arrows j)) x1 x2 x3 x4) (fun i _ => s.r.n - (intOf i).toNat)
        case atStart => exact ⟨0, Nat.zero_le _, rfl, HL0.out⟩
        case round =>
          obtain ⟨j, hj, rfl, hl⟩ := hrel
          have HLr : Hid (Lw w wr (cdCells c s) gd #[.int .i64 c.letters, .int .i64 c.planes, .int .i64 c.regs, .int .i64 c.lo, .int .i64 c.hi, .int .i64 c.most, .slice (some ⟨x1, 0, none⟩) s.t.n s.t.n, .slice (some ⟨x2, 0, none⟩) s.k.n s.k.n, .slice (some ⟨x3, 0, none⟩) s.i.n (s.i.n + 2), .slice (some ⟨x4, 0, none⟩) s.r.n s.r.n] (arrC (cellC c (c.cell.map (tnQ kk R))) (revL c.arrows j)) x1 x2 x3 x4) := hl
          clear hl HL0
          have p9 := HLr.out.cell 9 (.slice s.r.a s.r.n s.r.c) rfl
          have y9 := HLr.out.d 9 (.slice (some ⟨x4, 0, none⟩) s.r.n s.r.n) rfl
          by_cases hlt : j < s.r.n
          · obtain ⟨q, hq⟩ := get_lt (l := c.arrows) (k := j) (by rw [HN.out.2.2.2]; exact hlt)
            obtain ⟨b1, o1, hb1, hc1⟩ := ((HC.out.below HLr.out.low).arrows).cells (by omega)
            obtain ⟨z1, z2, z3, z4⟩ := hc1 j q hq
            obtain ⟨m, hm⟩ : ∃ m, c.arrows.length - (j + 1) = m := ⟨_, rfl⟩
            obtain ⟨q', hq'⟩ := rev_get (by rw [HN.out.2.2.2]; exact hlt) hm
            obtain ⟨v0, u0⟩ := HLr.out.rcell (j := 0) (i := m) hq' rfl
            obtain ⟨v1, u1⟩ := HLr.out.rcell (j := 1) (i := m) hq' rfl
            obtain ⟨v2, u2⟩ := HLr.out.rcell (j := 2) (i := m) hq' rfl
            obtain ⟨v3, u3⟩ := HLr.out.rcell (j := 3) (i := m) hq' rfl
            rw [Nat.add_zero] at v0 u0
            obtain ⟨q0, q1, q2, q3⟩ := q
            simp only at z1 z2 z3 z4
            have HLn : Hid (Lw w ((((wr.setCell ⟨x4, m * 4, none⟩ (.int .i64 q0)).setCell ⟨x4, m * 4 + 1, none⟩ (.int .i64 q1)).setCell ⟨x4, m * 4 + 2, none⟩ (.int .i64 q2)).setCell ⟨x4, m * 4 + 3, none⟩ (.int .i64 q3)).drew (cdCells c s) gd #[.int .i64 c.letters, .int .i64 c.planes, .int .i64 c.regs, .int .i64 c.lo, .int .i64 c.hi, .int .i64 c.most, .slice (some ⟨x1, 0, none⟩) s.t.n s.t.n, .slice (some ⟨x2, 0, none⟩) s.k.n s.k.n, .slice (some ⟨x3, 0, none⟩) s.i.n (s.i.n + 2), .slice (some ⟨x4, 0, none⟩) s.r.n s.r.n] (arrC (cellC c (c.cell.map (tnQ kk R))) (revL c.arrows (j + 1))) x1 x2 x3 x4) := by
              have h1 := HLr.out.aquad HGe.out.2 hq' q0 q1 q2 q3
              have h2 := rev_set hq hm
              rw [← h2]
              exact h1.next (below_drewN (Below.refl _ _) 1)
            have hmr : m < s.r.n := by have := HN.out.2.2.2; omega
            have hmj : s.r.n = j + 1 + m := by have := HN.out.2.2.2; omega
            obtain ⟨p, hp⟩ : ∃ p : Nat, s.r.n = p + 1 := ⟨s.r.n - 1, by omega⟩
            have e1 : (s.r.n : Int) - 1 = (p : Int) := by omega
            have e2 : (p : Int) - (j : Int) = (m : Int) := by omega
            rw [hb1] at p9
            clear hc1 hb1 hq hq' hm hmj hp HLr
            go_wp2_with fail
            go_region
            clear p9 y9 v0 v1 v2 v3 u0 u1 u2 u3 z1 z2 z3 z4 e1 e2
            go_wp2
            go_roundw
            case rel => exact ⟨j + 1, by omega, by go_num, HLn.out⟩
            case measure => simp [intOf]; omega
          · obtain rfl : s.r.n = j := by omega
            have HLf : Hid (Lw w wr (cdCells c s) gd #[.int .i64 c.letters, .int .i64 c.planes, .int .i64 c.regs, .int .i64 c.lo, .int .i64 c.hi, .int .i64 c.most, .slice (some ⟨x1, 0, none⟩) s.t.n s.t.n, .slice (some ⟨x2, 0, none⟩) s.k.n s.k.n, .slice (some ⟨x3, 0, none⟩) s.i.n (s.i.n + 2), .slice (some ⟨x4, 0, none⟩) s.r.n s.r.n] (tnC kk R c) x1 x2 x3 x4) := by
              have h1 := HLr.out
              have h2 := rev_all c.arrows
              rw [HN.out.2.2.2] at h2
              rw [h2] at h1
              exact h1
            have HCk : Hid (Calls Try.prog 10 #[.agg #[.int .i64 c.letters, .int .i64 c.planes, .int .i64 c.regs, .int .i64 c.lo, .int .i64 c.hi, .int .i64 c.most, .slice (some ⟨x1, 0, none⟩) s.t.n s.t.n, .slice (some ⟨x2, 0, none⟩) s.k.n s.k.n, .slice (some ⟨x3, 0, none⟩) s.i.n (s.i.n + 2), .slice (some ⟨x4, 0, none⟩) s.r.n s.r.n]] wr fun e w' => e = .returned (.tuple #[.int .i64 at1, .int .i64 er]) ∧ Below wr.heap.size wr w') := by
              have h1 := check_calls (tnC kk R c) (copS (tnC kk R c) x1 x2 x3 x4) wr (HLf.out.cop.at' HM.out.1 HM.out.2.1 (by show (c.cell.map (tnQ kk R)).length ≤ maxLen; rw [List.length_map]; exact HM.out.2.2.1) (by show c.arrows.reverse.length ≤ maxLen; rw [List.length_reverse]; exact HM.out.2.2.2))
              have h2 : cdCells (tnC kk R c) (copS (tnC kk R c) x1 x2 x3 x4) = #[.int .i64 c.letters, .int .i64 c.planes, .int .i64 c.regs, .int .i64 c.lo, .int .i64 c.hi, .int .i64 c.most, .slice (some ⟨x1, 0, none⟩) s.t.n s.t.n, .slice (some ⟨x2, 0, none⟩) s.k.n s.k.n, .slice (some ⟨x3, 0, none⟩) s.i.n (s.i.n + 2), .slice (some ⟨x4, 0, none⟩) s.r.n s.r.n] := by
                obtain ⟨l1, l2, l3, l4⟩ := HN.out
                simp only [cdCells, copS, tnC, List.length_map, List.length_reverse, l1, l2, l3, l4]
              rw [h2, tn_chk HRg.out hkk H1.out, HAE.out] at h1
              exact h1
            clear y9 hlt hj HLr
            go_upto_region 26 with (fail)
            clear p9
            have d0 := HLf.out.d 0 (.int .i64 c.letters) rfl
            have d1 := HLf.out.d 1 (.int .i64 c.planes) rfl
            have d2 := HLf.out.d 2 (.int .i64 c.regs) rfl
            have d3 := HLf.out.d 3 (.int .i64 c.lo) rfl
            have d4 := HLf.out.d 4 (.int .i64 c.hi) rfl
            have d5 := HLf.out.d 5 (.int .i64 c.most) rfl
            have d6 := HLf.out.d 6 (.slice (some ⟨x1, 0, none⟩) s.t.n s.t.n) rfl
            have d7 := HLf.out.d 7 (.slice (some ⟨x2, 0, none⟩) s.k.n s.k.n) rfl
            have d8 := HLf.out.d 8 (.slice (some ⟨x3, 0, none⟩) s.i.n (s.i.n + 2)) rfl
            have d9 := HLf.out.d 9 (.slice (some ⟨x4, 0, none⟩) s.r.n s.r.n) rfl
            go_wp2_with fail
            refine Calls.mono HCk.out ?_
            rintro e wc ⟨rfl, hb⟩
            have HBc : Hid (Below w.heap.size w wc) := (HLf.out.next hb).low
            clear hb HLf HCk
            clear d0 d1 d2 d3 d4 d5 d6 d7 d8 d9
            have n4 : (at1 == at1) = true := by simp
            have n5 : (er == er) = true := by simp
            go_wp2
            go_ret
            exact ⟨rfl, HBc.out⟩


namespace verifyTurned
open Go.ChangeShapes Go.WideShapes Go.ChangeAt Go.RowKit
open Go.ChangeMaps (open_string shut_string)
theorem own : ownKnob Try.prog.godebug = none := by kernel_rfl
theorem laidOut : laidOutB Try.prog = true := by kernel_rfl
set_option maxRecDepth 100000 in
theorem lifted (os : Os) (started : os.Started) (H : Type) (enc : TypeId × Value → H) :
    ReturnsInHanded {} Try.checked os 6 .any (Rows.verifyTurnedSpec.pre6 enc Try.prog Try.f6 Rows.verifyTurnedRow.domain false) (Rows.verifyTurnedSpec.post enc Try.prog Try.f6 false true false false) := by
  refine returnsInHanded_of_change_sized (C := Try.checked) own started (by kernel_rfl) Try.func6
    (ChangeSpec.witness6 (enc := enc) (C := Try.checked) false ⟨#[], #[.agg #[.int .i64 0, .int .i64 0, .int .i64 0, .int .i64 0, .int .i64 0, .int .i64 0, .slice none 0 0, .slice none 0 0, .slice none 0 0, .slice none 0 0], .int .i64 0], []⟩ 8 (by kernel_rfl) (by kernel_rfl) (by kernel_rfl) (by kernel_rfl)) ?_
  intro W base args ds gs before hval0 hW _ hsz0 _
  have hval : ∀ (j : Nat) t v, Try.f6.params[j]? = some t → args[j]? = some v → Value.okWide Try.prog W .any base t v := hval0
  have hsz : (DataW.weightsEach Try.prog (Try.f6.params.toList ++ Rows.verifyTurnedSpec.plain.varTypes Try.prog) (ds ++ gs)).all (· ≤ reachBytes) = true := hsz0
  have hW' := hW
  obtain ⟨p, q, hA0, hV, rfl, hfz, hnd⟩ := hW
  have hA : DataW.TrodAll enc Try.prog W 0 (fun _ => true) true Try.f6.params.toList args.toList ds p := hA0
  rw [Try.params6] at hA hval hsz
  obtain ⟨v0, vs0, d0, ds0, p0, q0, hargs, rfl, rfl, h0, r0⟩ := trodAll_cons hA
  obtain ⟨v1, vs1, d1, ds1, p1, q1, rfl, rfl, rfl, h1, r1⟩ := trodAll_cons r0
  obtain ⟨rfl, rfl, rfl⟩ := trodAll_nil r1
  obtain rfl : args = #[v0, v1] := by cases args; simp_all
  obtain ⟨rfl, rfl⟩ := trodVars_none hV
  have hw : ∀ (j : Nat) (t : TypeId) (d : DataW H), ([26, 3] ++ Rows.verifyTurnedSpec.plain.varTypes Try.prog)[j]? = some t → ([d0, d1] ++ [])[j]? = some d → ∀ n ∈ d.weights Try.prog t, n ≤ reachBytes := fun j t d ht hd n hn =>
    of_decide_eq_true (List.all_eq_true.1 hsz _ (DataW.weights_mem_each ht hd n hn))
  obtain ⟨cs0, rfl, hcs0⟩ := okWide_struct Try.underlying26 (hval 0 26 v0 rfl rfl)
  have lt0 : ∀ x ∈ p0, x.block < W.heap.size := by obtain ⟨m, hm⟩ := h0; exact DataW.trod_lt m _ _ _ hm
  obtain ⟨z0, s0, e0, in0⟩ := cd_in hcs0 h0
  subst e0
  obtain ⟨a1, rfl, rfl, rfl, w1⟩ := open_int Try.underlying3 (hval 1 3 v1 rfl rfl) h1
  clear hA0 hval0
  refine (turned_walk z0 s0 a1 W in0).mono fun e W' ⟨he, bel⟩ => ?_
  subst he
  exact ⟨_, rfl, _, _, _, [], _, [], hW', trodAll_mk1 (shut_bool Try.underlying4 _), (trodAll_cons_mk (Below.trod laidOut (by kernel_rfl) (of_decide_eq_true (by kernel_rfl)) h0 bel lt0) (trodAll_cons_mk (shut_int Try.underlying3 w1) trodAll_mk0)), rfl, bel.frame _, fun h => by cases h⟩
end verifyTurned

theorem verifyTurned_holds : Rows.VerifyTurnedSaid :=
  OpenClaim.holds_of_wide 6 Try.f6 rfl rfl rfl rfl rfl rfl rfl ⟨rfl, rfl, rfl, rfl, rfl⟩ rfl rfl rfl rfl rfl (by kernel_rfl) Try.func6 (by kernel_rfl)
    (of_decide_eq_true (by kernel_rfl)) (by unfold Func.isWrapper; first | (rw [if_pos (by decide +kernel)]; kernel_rfl) | (rw [if_neg (by decide +kernel)]; exact ⟨rfl, rfl⟩))
    (fun os started H enc _ => verifyTurned.lifted os started H enc)

end Go.Proofs.Ytdbfcclmmpcijaa
