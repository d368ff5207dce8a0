/-
  The walks of limits, named, readable, keptTwice.
-/
import Derived.Test.YtnkfibahkmmnpaaGreatVrE
namespace Go.Proofs.YtnkfibahkmmnpaaGreat
open Go.RowKit

/-- What an instruction names is there. -/
structure Nm (o : Int) (x y : Nat) : Prop where
  lo : 1 ≤ o
  hi : o ≤ 8
  a : o ≤ 6 → x < 16
  b3 : o = 3 → y < 10
  b6 : o = 6 → y < 16
  p7 : o = 7 → x < 10 ∧ y < 16
  p8 : o = 8 → x < 10
theorem nm_of {c : Cd} {o : Int} {x y z : Nat} (hr : Rt c) (h1 : 1 ≤ o) (h2 : o ≤ 8) (h : namB c (o, (x : Int), (y : Int), (z : Int)) = true) : Nm o x y := by
  have hp := hr.planes
  have hg := hr.regs
  simp only [namB, Bool.and_eq_true, decide_eq_true_eq] at h
  have : o = 1 ∨ o = 2 ∨ o = 3 ∨ o = 4 ∨ o = 5 ∨ o = 6 ∨ o = 7 ∨ o = 8 := by omega
  rcases this with rfl | rfl | rfl | rfl | rfl | rfl | rfl | rfl <;> (simp [limB] at h; refine ⟨h1, h2, fun _ => ?_, fun _ => ?_, fun _ => ?_, fun _ => ?_, fun _ => ?_⟩ <;> first | omega | (rename_i hh; exact absurd hh (by decide)))

set_option maxHeartbeats 1000000 in
theorem limits_calls {w0 w : World} {b : Nat} {c : Cd} {s : Ls} {S : St} {wv : Nat → Value} (h : Lk w0 w b c s S wv) (o : Int) :
    Calls Tryz.prog 100 #[.pointer (some ⟨b, 0, none⟩), .int .i64 o] w fun e w' => e = .returned (.tuple #[.int .i64 (limB c o).1, .int .i64 (limB c o).2.1, .int .i64 (limB c o).2.2]) ∧ Below w.heap.size w w' := by
  have c1 := h.code 1 (by omega) (v := .int .i64 c.planes) rfl
  have c2 := h.code 2 (by omega) (v := .int .i64 c.regs) rfl
  have c7 := h.code 7 (by omega) (v := .slice s.k.a s.k.n s.k.c) rfl
  have hk := h.at'.consts.short
  unfold maxLen at hk
  have HK : Hid (c.consts.length = s.k.n) := h.at'.consts.length
  have hres : Tryz.f100.results = #[.tmp 4, .tmp 5, .tmp 6] := by kernel_rfl
  clear h
  by_cases h2 : o = 2
  · have e2 : (o == 2) = true := by simp [h2]
    have HE : Hid (limB c o = (c.regs, (s.k.n : Int), 4)) := by show _ = _; simp [limB, h2, HK.out]
    clear h2
    go_enter Tryz.func100, Tryz.ntmps100
    go_wp2_with fail
    go_quiet (fail)
    go_wp2
    refine bodyPost_ret (v := .tuple #[.int .i64 c.regs, .int .i64 (s.k.n : Int), .int .i64 4]) ?_ rfl ⟨by rw [HE.out], below_drewN (Below.refl _ _) nq⟩
    simp only [results, hres]
    go_simp
  have e2 : (o == 2) = false := by simp [h2]
  by_cases h3 : o = 3
  · have e3 : (o == 3) = true := by simp [h3]
    have HE : Hid (limB c o = (c.regs, c.planes, 4)) := by show _ = _; simp [limB, h3]
    clear h3
    go_enter Tryz.func100, Tryz.ntmps100
    go_wp2_with fail
    go_quiet (fail)
    go_wp2
    refine bodyPost_ret (v := .tuple #[.int .i64 c.regs, .int .i64 c.planes, .int .i64 4]) ?_ rfl ⟨by rw [HE.out], below_drewN (Below.refl _ _) nq⟩
    simp only [results, hres]
    go_simp
  have e3 : (o == 3) = false := by simp [h3]
  by_cases h4 : o = 4
  · have e4 : (o == 4) = true := by simp [h4]
    have HE : Hid (limB c o = (c.regs, (s.k.n : Int), 1)) := by show _ = _; simp [limB, h4, HK.out]
    clear h4
    go_enter Tryz.func100, Tryz.ntmps100
    go_wp2_with fail
    go_quiet (fail)
    go_wp2
    refine bodyPost_ret (v := .tuple #[.int .i64 c.regs, .int .i64 (s.k.n : Int), .int .i64 1]) ?_ rfl ⟨by rw [HE.out], below_drewN (Below.refl _ _) nq⟩
    simp only [results, hres]
    go_simp
  have e4 : (o == 4) = false := by simp [h4]
  by_cases h6 : o = 6
  · have e6 : (o == 6) = true := by simp [h6]
    have HE : Hid (limB c o = (c.regs, c.regs, 16)) := by show _ = _; simp [limB, h6]
    clear h6
    go_enter Tryz.func100, Tryz.ntmps100
    go_wp2_with fail
    go_quiet (fail)
    go_wp2
    refine bodyPost_ret (v := .tuple #[.int .i64 c.regs, .int .i64 c.regs, .int .i64 16]) ?_ rfl ⟨by rw [HE.out], below_drewN (Below.refl _ _) nq⟩
    simp only [results, hres]
    go_simp
  have e6 : (o == 6) = false := by simp [h6]
  by_cases h7 : o = 7
  · have e7 : (o == 7) = true := by simp [h7]
    have HE : Hid (limB c o = (c.planes, c.regs, 1)) := by show _ = _; simp [limB, h7]
    clear h7
    go_enter Tryz.func100, Tryz.ntmps100
    go_wp2_with fail
    go_quiet (fail)
    go_wp2
    refine bodyPost_ret (v := .tuple #[.int .i64 c.planes, .int .i64 c.regs, .int .i64 1]) ?_ rfl ⟨by rw [HE.out], below_drewN (Below.refl _ _) nq⟩
    simp only [results, hres]
    go_simp
  have e7 : (o == 7) = false := by simp [h7]
  by_cases h8 : o = 8
  · have e8 : (o == 8) = true := by simp [h8]
    have HE : Hid (limB c o = (c.planes, (s.k.n : Int), 4)) := by show _ = _; simp [limB, h8, HK.out]
    clear h8
    go_enter Tryz.func100, Tryz.ntmps100
    go_wp2_with fail
    go_quiet (fail)
    go_wp2
    refine bodyPost_ret (v := .tuple #[.int .i64 c.planes, .int .i64 (s.k.n : Int), .int .i64 4]) ?_ rfl ⟨by rw [HE.out], below_drewN (Below.refl _ _) nq⟩
    simp only [results, hres]
    go_simp
  have e8 : (o == 8) = false := by simp [h8]
  have HE : Hid (limB c o = (c.regs, 1, 1)) := by show _ = _; simp [limB, h2, h3, h4, h6, h7, h8]
  clear h2 h3 h4 h6 h7 h8
  go_enter Tryz.func100, Tryz.ntmps100
  go_wp2_with fail
  go_quiet (fail)
  go_wp2
  refine bodyPost_ret (v := .tuple #[.int .i64 c.regs, .int .i64 1, .int .i64 1]) ?_ rfl ⟨by rw [HE.out], below_drewN (Below.refl _ _) nq⟩
  simp only [results, hres]
  go_simp

set_option maxHeartbeats 1000000 in
theorem named_calls {w0 w : World} {b : Nat} {c : Cd} {s : Ls} {S : St} {wv : Nat → Value} (h : Lk w0 w b c s S wv) (o x y z : Int) :
    Calls Tryz.prog 77 #[.pointer (some ⟨b, 0, none⟩), .agg #[.int .i64 o, .int .i64 x, .int .i64 y, .int .i64 z]] w fun e w' => e = .returned (.bool (namB c (o, x, y, z))) ∧ Below w.heap.size w w' := by
  have HL : Hid (Lk w0 w b c s S wv) := h
  clear h
  obtain ⟨l1, g1⟩ : ∃ l, (limB c o).1 = l := ⟨_, rfl⟩
  obtain ⟨l2, g2⟩ : ∃ l, (limB c o).2.1 = l := ⟨_, rfl⟩
  obtain ⟨l3, g3⟩ : ∃ l, (limB c o).2.2 = l := ⟨_, rfl⟩
  have HE : Hid (namB c (o, x, y, z) = (decide (x < l1) && decide (y < l2) && decide (z < l3))) := by show _ = _; rw [namB, ← g1, ← g2, ← g3]
  have HG : Hid ((limB c o).1 = l1 ∧ (limB c o).2.1 = l2 ∧ (limB c o).2.2 = l3) := ⟨g1, g2, g3⟩
  clear g1 g2 g3
  go_enter Tryz.func77, Tryz.ntmps77
  go_wp2_with fail
  refine (limits_calls (HL.out.alloc _) o).mono ?_
  rintro e w' ⟨rfl, hb⟩
  rw [HG.out.1, HG.out.2.1, HG.out.2.2]
  have HX : Hid (Below w.heap.size w w') := (below_new _).trans (hb.mono (by simp))
  have hbk : ∀ i v, (#[Value.int .i64 o, .int .i64 x, .int .i64 y, .int .i64 z] : Array Value)[i]? = some v → w'.cell? ⟨w.heap.size, i, none⟩ = some v := fun i v hv => cell_block (by rw [hb.block _ (by simp)]; exact heap_alloc_new w _) i v hv
  have f1 := hbk 1 _ rfl
  have f2 := hbk 2 _ rfl
  have f3 := hbk 3 _ rfl
  clear hb hbk
  by_cases hx : x < l1
  · have dx : decide (x < l1) = true := by simpa using hx
    have Dx : Hid (decide (x < l1) = true) := dx
    by_cases hy : y < l2
    · have dy : decide (y < l2) = true := by simpa using hy
      have Dy : Hid (decide (y < l2) = true) := dy
      clear hx hy
      go_wp2
      go_ret
      exact ⟨ret_bool (by rw [HE.out, Dx.out, Dy.out]; rfl), HX.out⟩
    · have dy : decide (y < l2) = false := by simpa using hy
      have Dy : Hid (decide (y < l2) = false) := dy
      clear hx hy
      go_wp2
      go_ret
      exact ⟨ret_bool (by rw [HE.out, Dx.out, Dy.out]; rfl), HX.out⟩
  · have dx : decide (x < l1) = false := by simpa using hx
    have Dx : Hid (decide (x < l1) = false) := dx
    clear hx
    go_wp2
    go_ret
    exact ⟨ret_bool (by rw [HE.out, Dx.out]; rfl), HX.out⟩

theorem toNat_cast (x : Nat) : ((x : Int)).toNat = x := Int.toNat_natCast x
set_option maxRecDepth 10000 in
set_option maxHeartbeats 2000000 in
theorem readable_calls {w0 w : World} {b : Nat} {c : Cd} {s : Ls} {S : St} {wv : Nat → Value} (h : Lk w0 w b c s S wv) (o : Int) (x y z : Nat) (hm : Nm o x y) :
    Calls Tryz.prog 78 #[.pointer (some ⟨b, 0, none⟩), .agg #[.int .i64 o, .int .i64 x, .int .i64 y, .int .i64 z]] w fun e w' => e = .returned (.bool (rdB S (o, x, y, z))) ∧ Below w.heap.size w w' := by
  have hlt := h.lt
  have HL : Hid (Lk w0 w b c s S wv) := h
  have HM : Hid (Nm o x y) := hm
  clear h hm
  by_cases h3 : o = 3
  · have e3 : (o == 3) = true := by simp [h3]
    have hy := HM.out.b3 h3
    have p0 := HL.out.pl0 y hy
    have HS : Hid (rdB S (o, (x : Int), (y : Int), (z : Int)) = (!((z : Int) == 0) || (S.pl y).1)) := by show _ = _; simp [rdB, h3]
    clear h3
    obtain ⟨v, hv⟩ : ∃ v, (S.pl y).1 = v := ⟨_, rfl⟩
    rw [hv] at p0 HS
    clear hv
    by_cases hz : z = 0
    · have ez : ((z : Int) != 0) = false := by simp [hz]
      have HE : Hid (rdB S (o, (x : Int), (y : Int), (z : Int)) = v) := by show _ = _; rw [HS.out]; simp [hz]
      clear hz
      go_enter Tryz.func78, Tryz.ntmps78
      go_wp2_with fail
      go_quiet (fail)
      go_wp2
      go_ret
      exact ⟨ret_bool HE.out.symm, below_drewN (below_new _) nq⟩
    · have ez : ((z : Int) != 0) = true := by simp [hz]
      have HE : Hid (rdB S (o, (x : Int), (y : Int), (z : Int)) = true) := by show _ = _; rw [HS.out]; simp [hz]
      clear hz
      go_enter Tryz.func78, Tryz.ntmps78
      go_wp2_with fail
      go_quiet (fail)
      go_wp2
      go_ret
      exact ⟨ret_bool HE.out.symm, below_drewN (below_new _) nq⟩
  have e3 : (o == 3) = false := by simp [h3]
  by_cases h4 : o = 4 ∨ o = 5
  · have hx := HM.out.a (by omega)
    have p0 := HL.out.r0 hx
    have HE : Hid (rdB S (o, (x : Int), (y : Int), (z : Int)) = (S.regs x).wr) := by show _ = _; simp [rdB, h3, h4]
    obtain ⟨v, hv⟩ : ∃ v, (S.regs x).wr = v := ⟨_, rfl⟩
    rw [hv] at p0 HE
    clear hv h3
    by_cases h5 : o = 4
    · have e4 : (o == 4) = true := by simp [h5]
      clear h4 h5
      go_enter Tryz.func78, Tryz.ntmps78
      go_wp2_with fail
      go_quiet (fail)
      go_wp2
      go_ret
      exact ⟨ret_bool HE.out.symm, below_drewN (below_new _) nq⟩
    · have e4 : (o == 4) = false := by simp [h5]
      have e5 : (o == 5) = true := by simp; omega
      clear h4 h5
      go_enter Tryz.func78, Tryz.ntmps78
      go_wp2_with fail
      go_quiet (fail)
      go_wp2
      go_ret
      exact ⟨ret_bool HE.out.symm, below_drewN (below_new _) nq⟩
  have e4 : (o == 4) = false := by simp; omega
  have e5 : (o == 5) = false := by simp; omega
  by_cases h6 : o = 6
  · have e6 : (o == 6) = true := by simp [h6]
    have hx := HM.out.a (by omega)
    have hy := HM.out.b6 h6
    have p0 := HL.out.r0 hx
    have q0 := HL.out.r0 hy
    have HS : Hid (rdB S (o, (x : Int), (y : Int), (z : Int)) = ((S.regs x).wr && (S.regs y).wr)) := by show _ = _; simp [rdB, h6]
    obtain ⟨v, hv⟩ : ∃ v, (S.regs x).wr = v := ⟨_, rfl⟩
    obtain ⟨u, hu⟩ : ∃ u, (S.regs y).wr = u := ⟨_, rfl⟩
    rw [hv] at p0 HS
    rw [hu] at q0 HS
    clear hv hu h3 h4 h6
    cases v
    · go_enter Tryz.func78, Tryz.ntmps78
      go_wp2_with fail
      go_quiet (fail)
      go_wp2
      go_ret
      exact ⟨ret_bool (by rw [HS.out]; rfl), below_drewN (below_new _) nq⟩
    · go_enter Tryz.func78, Tryz.ntmps78
      go_wp2_with fail
      go_quiet (fail)
      go_wp2
      go_ret
      exact ⟨ret_bool (by rw [HS.out]; rfl), below_drewN (below_new _) nq⟩
  have e6 : (o == 6) = false := by simp [h6]
  by_cases h7 : o = 7
  · have e7 : (o == 7) = true := by simp [h7]
    have hy := (HM.out.p7 h7).2
    have p0 := HL.out.r0 hy
    have HE : Hid (rdB S (o, (x : Int), (y : Int), (z : Int)) = (S.regs y).wr) := by show _ = _; simp [rdB, h7]
    obtain ⟨v, hv⟩ : ∃ v, (S.regs y).wr = v := ⟨_, rfl⟩
    rw [hv] at p0 HE
    clear hv h3 h4 h6 h7
    go_enter Tryz.func78, Tryz.ntmps78
    go_wp2_with fail
    go_quiet (fail)
    go_wp2
    go_ret
    exact ⟨ret_bool HE.out.symm, below_drewN (below_new _) nq⟩
  have e7 : (o == 7) = false := by simp [h7]
  by_cases h8 : o = 8
  · have e8 : (o == 8) = true := by simp [h8]
    have hx := HM.out.p8 h8
    have p0 := HL.out.pl0 x hx
    have HE : Hid (rdB S (o, (x : Int), (y : Int), (z : Int)) = (S.pl x).1) := by show _ = _; simp [rdB, h8]
    obtain ⟨v, hv⟩ : ∃ v, (S.pl x).1 = v := ⟨_, rfl⟩
    rw [hv] at p0 HE
    clear hv h3 h4 h6 h7 h8
    go_enter Tryz.func78, Tryz.ntmps78
    go_wp2_with fail
    go_quiet (fail)
    go_wp2
    go_ret
    exact ⟨ret_bool HE.out.symm, below_drewN (below_new _) nq⟩
  have e8 : (o == 8) = false := by simp [h8]
  have HE : Hid (rdB S (o, (x : Int), (y : Int), (z : Int)) = true) := by show _ = _; simp [rdB, h3, h4, h6, h7, h8]
  clear h3 h4 h6 h7 h8
  go_enter Tryz.func78, Tryz.ntmps78
  go_wp2
  go_ret
  exact ⟨ret_bool HE.out.symm, below_new _⟩
set_option maxRecDepth 10000 in
set_option maxHeartbeats 1000000 in
theorem keptTwice_calls {w0 w : World} {b : Nat} {c : Cd} {s : Ls} {S : St} {wv : Nat → Value} (h : Lk w0 w b c s S wv) (o : Int) (x y z : Nat) (hm : Nm o x y) :
    Calls Tryz.prog 79 #[.pointer (some ⟨b, 0, none⟩), .agg #[.int .i64 o, .int .i64 x, .int .i64 y, .int .i64 z]] w fun e w' => e = .returned (.bool (twB S (o, x, y, z))) ∧ Below w.heap.size w w' := by
  have hlt := h.lt
  have HL : Hid (Lk w0 w b c s S wv) := h
  have HM : Hid (Nm o x y) := hm
  clear h hm
  by_cases h7 : o = 7
  · have e7 : (o == 7) = true := by simp [h7]
    have hx := (HM.out.p7 h7).1
    have p0 := HL.out.pl0 x hx
    have HE : Hid (twB S (o, (x : Int), (y : Int), (z : Int)) = (S.pl x).1) := by show _ = _; simp [twB, h7]
    obtain ⟨v, hv⟩ : ∃ v, (S.pl x).1 = v := ⟨_, rfl⟩
    rw [hv] at p0 HE
    clear hv h7
    go_enter Tryz.func79, Tryz.ntmps79
    go_wp2_with fail
    go_quiet (fail)
    go_wp2
    go_ret
    exact ⟨ret_bool HE.out.symm, below_drewN (below_new _) nq⟩
  · have e7 : (o == 7) = false := by simp [h7]
    have HE : Hid (twB S (o, (x : Int), (y : Int), (z : Int)) = false) := by show _ = _; simp [twB, h7]
    clear h7
    go_enter Tryz.func79, Tryz.ntmps79
    go_wp2_with fail
    go_quiet (fail)
    go_wp2
    go_ret
    exact ⟨ret_bool HE.out.symm, below_drewN (below_new _) nq⟩

end Go.Proofs.YtnkfibahkmmnpaaGreat
