/-
  The walk of good. The walk of past. The walk of instructions.
-/
import Derived.Test.YtnkfibahkmmnpaaGreatVrG
import Derived.Test.YtnkfibahkmmnpaaGreatVrF
namespace Go.Proofs.YtnkfibahkmmnpaaGreat
open Go.RowKit

/-- The look, and the box of an instruction at g. -/
structure Li (w0 w wd : World) (b : Nat) (c : Cd) (s : Ls) (S : St) (wv : Nat → Value) (o x y z : Int) : Prop where
  lk : Lk w0 wd b c s S wv
  low : Below w.heap.size w wd
  size : w.heap.size < wd.heap.size
  i : wd.heap[w.heap.size]? = some (.cells #[.int .i64 o, .int .i64 x, .int .i64 y, .int .i64 z] 65 (0, 0))
section
variable {w0 w wd : World} {b : Nat} {c : Cd} {s : Ls} {S : St} {wv : Nat → Value} {o x y z : Int}
theorem Li.start (h : Lk w0 w b c s S wv) (o x y z : Int) : Li w0 w (w.alloc (.cells #[.int .i64 o, .int .i64 x, .int .i64 y, .int .i64 z] 65)) b c s S wv o x y z :=
  ⟨h.alloc _, below_new _, by simp, heap_alloc_new _ _⟩
theorem Li.drew (h : Li w0 w wd b c s S wv o x y z) : Li w0 w wd.drew b c s S wv o x y z := ⟨h.lk.drewN 1, below_drewN h.low 1, h.size, h.i⟩
theorem Li.next {w2 : World} (h : Li w0 w wd b c s S wv o x y z) (hb : Below wd.heap.size wd w2) : Li w0 w w2 b c s S wv o x y z :=
  ⟨h.lk.next hb, h.low.trans (hb.mono h.low.size), Nat.lt_of_lt_of_le h.size hb.size, by rw [hb.block _ h.size]; exact h.i⟩
theorem Li.i0 (h : Li w0 w wd b c s S wv o x y z) : wd.cell? ⟨w.heap.size, 0, none⟩ = some (.int .i64 o) := cell_block h.i 0 _ rfl
theorem Li.i1 (h : Li w0 w wd b c s S wv o x y z) : wd.cell? ⟨w.heap.size, 1, none⟩ = some (.int .i64 x) := cell_block h.i 1 _ rfl
theorem Li.i2 (h : Li w0 w wd b c s S wv o x y z) : wd.cell? ⟨w.heap.size, 2, none⟩ = some (.int .i64 y) := cell_block h.i 2 _ rfl
theorem Li.i3 (h : Li w0 w wd b c s S wv o x y z) : wd.cell? ⟨w.heap.size, 3, none⟩ = some (.int .i64 z) := cell_block h.i 3 _ rfl
end
set_option maxRecDepth 10000 in
set_option maxHeartbeats 2000000 in
theorem good_calls {w0 w : World} {b : Nat} {c : Cd} {s : Ls} {S : St} {wv : Nat → Value} (h : Lk w0 w b c s S wv) (o : Int) (x y z : Nat) (hm : Nm o x y) :
    Calls Tryz.prog 80 #[.pointer (some ⟨b, 0, none⟩), .agg #[.int .i64 o, .int .i64 x, .int .i64 y, .int .i64 z]] w fun e w' => e = .returned (.bool (gdB c S (o, x, y, z))) ∧ Below w.heap.size w w' := by
  have HL : Hid (Li w0 w (w.alloc (.cells #[.int .i64 o, .int .i64 x, .int .i64 y, .int .i64 z] 65)) b c s S wv o x y z) := Li.start h o x y z
  have HM : Hid (Nm o x y) := hm
  clear h hm
  by_cases h7 : o = 7
  · have e7 : (o != 7) = false := by simp [h7]
    obtain ⟨hx, hy⟩ := HM.out.p7 h7
    have hy' : (y : Int) < 16 := by omega
    by_cases hx0 : x = 0
    · have e0 : ((x : Int) == 0) = true := by simp [hx0]
      have HE : Hid (gdB c S (o, (x : Int), (y : Int), (z : Int)) = begB (S.regs y)) := by show _ = _; simp [gdB, h7, hx0]
      clear h7 hx0
      go_enter Tryz.func80, Tryz.ntmps80
      go_upto_region 5 with (fail)
      generalize w.alloc (.cells #[.int .i64 o, .int .i64 (x : Int), .int .i64 (y : Int), .int .i64 (z : Int)] 65) = wd at *
      have HD : Hid (Li w0 w wd.drew b c s S wv o x y z) := HL.out.drew
      have HS : Hid (wd.drew.cell? ⟨w.heap.size, 2, none⟩ = some (.int .i64 (y : Int))) := HD.out.i2
      refine wp_region_Y (fun j => [6, 7].contains j) (fun W : World => W.cell? ⟨w.heap.size, 2, none⟩ = some (.int .i64 (y : Int))) (by kernel_rfl) ?_
      refine wpAnyY_pure (i := 0) 27 (v := .pointer (some ⟨b, 0, none⟩)) rfl rfl (by kernel_rfl) (by kernel_rfl) (by kernel_rfl) (fun _ _ _ h => h) (Or.inl ⟨by rfl, by (intro W _; go_simp)⟩) ?_
      simp only [Act.put, List.setIfInBounds_toArray, List.set_cons_succ, List.set_cons_zero]
      refine wpAnyY_pure (i := 1) 28 (v := .pointer (some ⟨w.heap.size, 2, none⟩)) rfl rfl (by kernel_rfl) (by kernel_rfl) (by kernel_rfl) (fun _ _ _ h => h) (Or.inl ⟨by rfl, by (intro W _; go_simp)⟩) ?_
      simp only [Act.put, List.setIfInBounds_toArray, List.set_cons_succ, List.set_cons_zero]
      refine wpAnyY_takeD (i := 2) 29 (v := .int .i64 (y : Int)) rfl rfl (by kernel_rfl) (by kernel_rfl) (late_of (by kernel_rfl)) (by kernel_rfl) (by kernel_rfl) (fun _ _ _ h => h) HS.out (Or.inl ⟨by rfl, by (intro W hW; have e2 := hW; go_simp)⟩) ?_
      simp only [Act.put, List.setIfInBounds_toArray, List.set_cons_succ, List.set_cons_zero]
      refine wpAnyY_pure (i := 3) 30 (v := .pointer (some ⟨b, 0, none⟩)) rfl rfl (by kernel_rfl) (by kernel_rfl) (by kernel_rfl) (fun _ _ _ h => h) (Or.inl ⟨by rfl, by (intro W _; go_simp)⟩) ?_
      simp only [Act.put, List.setIfInBounds_toArray, List.set_cons_succ, List.set_cons_zero]
      refine wpAnyY_pure (i := 4) 31 (v := .pointer (some ⟨b, 10, none⟩)) rfl rfl (by kernel_rfl) (by kernel_rfl) (by kernel_rfl) (fun _ _ _ h => h) (Or.inl ⟨by rfl, by (intro W _; go_simp)⟩) ?_
      simp only [Act.put, List.setIfInBounds_toArray, List.set_cons_succ, List.set_cons_zero]
      refine wpAnyY_pure (i := 5) 32 (v := .pointer (some ⟨b, 10 + y * 7, none⟩)) rfl rfl (by kernel_rfl) (by kernel_rfl) (by kernel_rfl) (fun _ _ _ h => h) (Or.inl ⟨by rfl, by (intro W _; go_simp)⟩) ?_
      simp only [Act.put, List.setIfInBounds_toArray, List.set_cons_succ, List.set_cons_zero]
      refine wpAnyY_one (i := 6) rfl (by kernel_rfl) (fun Kc hKc => ?_)
      refine step_fnD 33 rfl (by rfl) 101 _ _ rfl Tryz.f101 Tryz.func101 (by kernel_rfl) (by kernel_rfl) #[.pointer (some ⟨b, 10 + y * 7, none⟩)] (by simp [Act.eval]) (begins_calls HD.out.lk hy) ?_
      rintro e wb ⟨rfl, hb⟩
      have HF : Hid (Below w.heap.size w wb) := (HD.out.next hb).low
      clear hb
      refine ⟨_, rfl, hKc.out _ _ (fun h => absurd h (by decide)) ?_⟩
      clear hKc Kc
      simp only [Act.put, List.setIfInBounds_toArray, List.set_cons_succ, List.set_cons_zero]
      refine wpAnyY_one (i := 7) rfl (by kernel_rfl) (fun Kc hKc => ?_)
      go_simp
      refine hKc.out _ _ (fun h => absurd h (by decide)) ?_
      clear hKc Kc
      refine wpAnyY_done (by kernel_rfl) ?_ _
      go_wp2
      go_ret
      exact ⟨ret_bool HE.out.symm, HF.out⟩
    · have e0 : ((x : Int) == 0) = false := by simp [hx0]
      have HE : Hid (gdB c S (o, (x : Int), (y : Int), (z : Int)) = comB (S.regs y) (x : Int) c.arrows) := by show _ = _; simp [gdB, h7, hx0]
      clear h7 hx0
      go_enter Tryz.func80, Tryz.ntmps80
      go_upto_region 1 with (fail)
      generalize w.alloc (.cells #[.int .i64 o, .int .i64 (x : Int), .int .i64 (y : Int), .int .i64 (z : Int)] 65) = wd at *
      have HD : Hid (Li w0 w wd.drew b c s S wv o x y z) := HL.out.drew
      have HS : Hid (wd.drew.cell? ⟨w.heap.size, 2, none⟩ = some (.int .i64 (y : Int)) ∧ wd.drew.cell? ⟨w.heap.size, 1, none⟩ = some (.int .i64 (x : Int)) ∧ wd.drew.cell? ⟨b, 9, none⟩ = some (.slice s.r.a s.r.n s.r.c)) := ⟨HD.out.i2, HD.out.i1, HD.out.lk.code 9 (by omega) rfl⟩
      refine wp_region_Y (fun j => [13, 14].contains j) (fun W : World => W.cell? ⟨w.heap.size, 2, none⟩ = some (.int .i64 (y : Int)) ∧ W.cell? ⟨w.heap.size, 1, none⟩ = some (.int .i64 (x : Int)) ∧ W.cell? ⟨b, 9, none⟩ = some (.slice s.r.a s.r.n s.r.c)) (by kernel_rfl) ?_
      refine wpAnyY_pure (i := 0) 5 (v := .pointer (some ⟨b, 0, none⟩)) rfl rfl (by kernel_rfl) (by kernel_rfl) (by kernel_rfl) (fun _ _ _ h => h) (Or.inl ⟨by rfl, by (intro W _; go_simp)⟩) ?_
      simp only [Act.put, List.setIfInBounds_toArray, List.set_cons_succ, List.set_cons_zero]
      refine wpAnyY_pure (i := 1) 6 (v := .pointer (some ⟨w.heap.size, 2, none⟩)) rfl rfl (by kernel_rfl) (by kernel_rfl) (by kernel_rfl) (fun _ _ _ h => h) (Or.inl ⟨by rfl, by (intro W _; go_simp)⟩) ?_
      simp only [Act.put, List.setIfInBounds_toArray, List.set_cons_succ, List.set_cons_zero]
      refine wpAnyY_takeD (i := 2) 7 (v := .int .i64 (y : Int)) rfl rfl (by kernel_rfl) (by kernel_rfl) (late_of (by kernel_rfl)) (by kernel_rfl) (by kernel_rfl) (fun _ _ _ h => h) HS.out (Or.inl ⟨by rfl, by (intro W hW; obtain ⟨e2, e1, e9⟩ := hW; go_simp)⟩) ?_
      simp only [Act.put, List.setIfInBounds_toArray, List.set_cons_succ, List.set_cons_zero]
      refine wpAnyY_pure (i := 3) 8 (v := .pointer (some ⟨b, 0, none⟩)) rfl rfl (by kernel_rfl) (by kernel_rfl) (by kernel_rfl) (fun _ _ _ h => h) (Or.inl ⟨by rfl, by (intro W _; go_simp)⟩) ?_
      simp only [Act.put, List.setIfInBounds_toArray, List.set_cons_succ, List.set_cons_zero]
      refine wpAnyY_pure (i := 4) 9 (v := .pointer (some ⟨b, 10, none⟩)) rfl rfl (by kernel_rfl) (by kernel_rfl) (by kernel_rfl) (fun _ _ _ h => h) (Or.inl ⟨by rfl, by (intro W _; go_simp)⟩) ?_
      simp only [Act.put, List.setIfInBounds_toArray, List.set_cons_succ, List.set_cons_zero]
      refine wpAnyY_pure (i := 5) 10 (v := .pointer (some ⟨b, 10 + y * 7, none⟩)) rfl rfl (by kernel_rfl) (by kernel_rfl) (by kernel_rfl) (fun _ _ _ h => h) (Or.inl ⟨by rfl, by (intro W _; go_simp)⟩) ?_
      simp only [Act.put, List.setIfInBounds_toArray, List.set_cons_succ, List.set_cons_zero]
      refine wpAnyY_pure (i := 6) 11 (v := .pointer (some ⟨w.heap.size, 1, none⟩)) rfl rfl (by kernel_rfl) (by kernel_rfl) (by kernel_rfl) (fun _ _ _ h => h) (Or.inl ⟨by rfl, by (intro W _; go_simp)⟩) ?_
      simp only [Act.put, List.setIfInBounds_toArray, List.set_cons_succ, List.set_cons_zero]
      refine wpAnyY_takeD (i := 7) 12 (v := .int .i64 (x : Int)) rfl rfl (by kernel_rfl) (by kernel_rfl) (late_of (by kernel_rfl)) (by kernel_rfl) (by kernel_rfl) (fun _ _ _ h => h) HS.out (Or.inl ⟨by rfl, by (intro W hW; obtain ⟨e2, e1, e9⟩ := hW; go_simp)⟩) ?_
      simp only [Act.put, List.setIfInBounds_toArray, List.set_cons_succ, List.set_cons_zero]
      refine wpAnyY_pure (i := 8) 13 (v := .pointer (some ⟨b, 0, none⟩)) rfl rfl (by kernel_rfl) (by kernel_rfl) (by kernel_rfl) (fun _ _ _ h => h) (Or.inl ⟨by rfl, by (intro W _; go_simp)⟩) ?_
      simp only [Act.put, List.setIfInBounds_toArray, List.set_cons_succ, List.set_cons_zero]
      refine wpAnyY_pure (i := 9) 14 (v := .pointer (some ⟨b, 0, none⟩)) rfl rfl (by kernel_rfl) (by kernel_rfl) (by kernel_rfl) (fun _ _ _ h => h) (Or.inl ⟨by rfl, by (intro W _; go_simp)⟩) ?_
      simp only [Act.put, List.setIfInBounds_toArray, List.set_cons_succ, List.set_cons_zero]
      refine wpAnyY_pure (i := 10) 15 (v := .pointer (some ⟨b, 0, none⟩)) rfl rfl (by kernel_rfl) (by kernel_rfl) (by kernel_rfl) (fun _ _ _ h => h) (Or.inl ⟨by rfl, by (intro W _; go_simp)⟩) ?_
      simp only [Act.put, List.setIfInBounds_toArray, List.set_cons_succ, List.set_cons_zero]
      refine wpAnyY_pure (i := 11) 16 (v := .pointer (some ⟨b, 9, none⟩)) rfl rfl (by kernel_rfl) (by kernel_rfl) (by kernel_rfl) (fun _ _ _ h => h) (Or.inl ⟨by rfl, by (intro W _; go_simp)⟩) ?_
      simp only [Act.put, List.setIfInBounds_toArray, List.set_cons_succ, List.set_cons_zero]
      refine wpAnyY_takeD (i := 12) 17 (v := .slice s.r.a s.r.n s.r.c) rfl rfl (by kernel_rfl) (by kernel_rfl) (late_of (by kernel_rfl)) (by kernel_rfl) (by kernel_rfl) (fun _ _ _ h => h) HS.out (Or.inl ⟨by rfl, by (intro W hW; obtain ⟨e2, e1, e9⟩ := hW; go_simp)⟩) ?_
      simp only [Act.put, List.setIfInBounds_toArray, List.set_cons_succ, List.set_cons_zero]
      refine wpAnyY_one (i := 13) rfl (by kernel_rfl) (fun Kc hKc => ?_)
      refine step_fnD 18 rfl (by rfl) 102 _ _ rfl Tryz.f102 Tryz.func102 (by kernel_rfl) (by kernel_rfl) #[.pointer (some ⟨b, 10 + y * 7, none⟩), .int .i64 (x : Int), .slice s.r.a s.r.n s.r.c] (by simp [Act.eval]) (comesBy_calls HD.out.lk hy (x : Int) _ _ _ c.arrows HD.out.lk.at'.arrows) ?_
      rintro e wb ⟨rfl, hb⟩
      have HF : Hid (Below w.heap.size w wb) := (HD.out.next hb).low
      clear hb
      refine ⟨_, rfl, hKc.out _ _ (fun h => absurd h (by decide)) ?_⟩
      clear hKc Kc
      simp only [Act.put, List.setIfInBounds_toArray, List.set_cons_succ, List.set_cons_zero]
      refine wpAnyY_one (i := 14) rfl (by kernel_rfl) (fun Kc hKc => ?_)
      go_simp
      refine hKc.out _ _ (fun h => absurd h (by decide)) ?_
      clear hKc Kc
      refine wpAnyY_done (by kernel_rfl) ?_ _
      go_wp2
      go_ret
      exact ⟨ret_bool HE.out.symm, HF.out⟩
  · have e7 : (o != 7) = true := by simp [h7]
    have HE : Hid (gdB c S (o, (x : Int), (y : Int), (z : Int)) = true) := by show _ = _; simp [gdB, h7]
    clear h7
    go_enter Tryz.func80, Tryz.ntmps80
    go_wp2
    go_ret
    exact ⟨ret_bool HE.out.symm, HL.out.low⟩

end Go.Proofs.YtnkfibahkmmnpaaGreat
namespace Go.Proofs.YtnkfibahkmmnpaaGreat
open Go.RowKit

theorem Li.lowb {w0 w wd w2 : World} {b : Nat} {c : Cd} {s : Ls} {S : St} {wv : Nat → Value} {o x y z : Int} (h : Li w0 w wd b c s S wv o x y z) (hlt : b ≤ w.heap.size) (hb : Below b wd w2) : Below b w w2 := (h.low.mono hlt).trans hb
/-- Likewise, behind a store into the look. -/
structure Lj (w0 w wd : World) (b : Nat) (c : Cd) (s : Ls) (S : St) (wv : Nat → Value) (o x y z : Int) : Prop where
  lk : Lk w0 wd b c s S wv
  low : Below b w wd
  i : wd.heap[w.heap.size]? = some (.cells #[.int .i64 o, .int .i64 x, .int .i64 y, .int .i64 z] 65 (0, 0))
theorem Lj.i1 {w0 w wd : World} {b : Nat} {c : Cd} {s : Ls} {S : St} {wv : Nat → Value} {o x y z : Int} (h : Lj w0 w wd b c s S wv o x y z) : wd.cell? ⟨w.heap.size, 1, none⟩ = some (.int .i64 x) := cell_block h.i 1 _ rfl
theorem Lj.drew {w0 w wd : World} {b : Nat} {c : Cd} {s : Ls} {S : St} {wv : Nat → Value} {o x y z : Int} (h : Lj w0 w wd b c s S wv o x y z) : Lj w0 w wd.drew b c s S wv o x y z := ⟨h.lk.drewN 1, below_drewN h.low 1, h.i⟩
theorem Li.add {w0 w wd : World} {b : Nat} {c : Cd} {s : Ls} {S : St} {wv : Nat → Value} {o x y z : Int} (h : Li w0 w wd b c s S wv o x y z) (hlt : b < w.heap.size) (k : Nat) (hk : k < 16) :
    Lj w0 w (wd.setCell ⟨b, 10 + k * 7 + 6, none⟩ (.int .i64 ((S.regs k).weight + 1))).drew b c s (setR S k (addB (S.regs k))) wv o x y z :=
  Lj.drew ⟨h.lk.add k hk rfl, (h.low.mono (Nat.le_of_lt hlt)).setCell (p := ⟨b, 10 + k * 7 + 6, none⟩) (Nat.le_refl b) _, by rw [Below.heap_setCell _ _ _ _ (show w.heap.size ≠ b by omega)]; exact h.i⟩
theorem lk_fields (S : St) (p t : Int) : rgAgg (loadB S p t) = #[.bool (loadB S p t).wr, .int .i64 (loadB S p t).kind, .int .i64 (loadB S p t).plane, .int .i64 (loadB S p t).step, .bool (loadB S p t).met, .slice none 0 0, .int .i64 (loadB S p t).weight] := rfl
theorem load_ways (S : St) (p t : Int) : (loadB S p t).ways = [] := by unfold loadB; split <;> rfl

set_option maxRecDepth 10000 in
set_option maxHeartbeats 2000000 in
theorem past1_calls {w0 w : World} {b : Nat} {c : Cd} {s : Ls} {S : St} {wv : Nat → Value} (h : Lk w0 w b c s S wv) (o : Int) (x y z : Nat) (hm : Nm o x y) (hbd : Bd S 1000) (ho : o = 1) :
    Calls Tryz.prog 81 #[.pointer (some ⟨b, 0, none⟩), .agg #[.int .i64 o, .int .i64 x, .int .i64 y, .int .i64 z]] w fun e w' => e = .returned (.tuple #[]) ∧ (∃ wv', Lk w0 w' b c s (pastP S (o, x, y, z)) wv') ∧ Below b w w' := by
  have hlt := h.lt
  have HL : Hid (Li w0 w (w.alloc (.cells #[.int .i64 o, .int .i64 (x : Int), .int .i64 (y : Int), .int .i64 (z : Int)] 65)) b c s S wv o x y z) := Li.start h o x y z
  have HM : Hid (Nm o x y) := hm
  have HB : Hid (Bd S 1000) := hbd
  clear h hm hbd
  have e1 : (o == 1) = true := by simp [ho]
  have HE : Hid (pastP S (o, (x : Int), (y : Int), (z : Int)) = writeP S x rg0) := by show _ = _; simp [pastP, ho]
  have hx := HM.out.a (by omega)
  clear ho
  go_enter Tryz.func81, Tryz.ntmps81
  go_wp2_with fail
  refine (write_calls HL.out.lk x hx false 0 0 0 false 0).mono ?_
  rintro e w2 ⟨rfl, hl, hb⟩
  go_wp2
  go_end0
  rw [HE.out]
  exact ⟨rfl, hl, HL.out.lowb (Nat.le_of_lt hlt) hb⟩

set_option maxRecDepth 10000 in
set_option maxHeartbeats 2000000 in
theorem past2_calls {w0 w : World} {b : Nat} {c : Cd} {s : Ls} {S : St} {wv : Nat → Value} (h : Lk w0 w b c s S wv) (o : Int) (x y z : Nat) (hm : Nm o x y) (hbd : Bd S 1000) (ho : o = 2) :
    Calls Tryz.prog 81 #[.pointer (some ⟨b, 0, none⟩), .agg #[.int .i64 o, .int .i64 x, .int .i64 y, .int .i64 z]] w fun e w' => e = .returned (.tuple #[]) ∧ (∃ wv', Lk w0 w' b c s (pastP S (o, x, y, z)) wv') ∧ Below b w w' := by
  have hlt := h.lt
  have HL : Hid (Li w0 w (w.alloc (.cells #[.int .i64 o, .int .i64 (x : Int), .int .i64 (y : Int), .int .i64 (z : Int)] 65)) b c s S wv o x y z) := Li.start h o x y z
  have HM : Hid (Nm o x y) := hm
  have HB : Hid (Bd S 1000) := hbd
  clear h hm hbd
  have e1 : (o == 1) = false := by simp [ho]
  have e2 : (o == 2) = true := by simp [ho]
  have HE : Hid (pastP S (o, (x : Int), (y : Int), (z : Int)) = writeP S x ⟨false, 1, 0, 0, false, [], 1⟩) := by show _ = _; simp [pastP, ho]
  have hx := HM.out.a (by omega)
  clear ho
  go_enter Tryz.func81, Tryz.ntmps81
  go_wp2_with fail
  refine (write_calls HL.out.lk x hx false 1 0 0 false 1).mono ?_
  rintro e w2 ⟨rfl, hl, hb⟩
  go_wp2
  go_end0
  rw [HE.out]
  exact ⟨rfl, hl, HL.out.lowb (Nat.le_of_lt hlt) hb⟩

set_option maxRecDepth 10000 in
set_option maxHeartbeats 2000000 in
theorem past3_calls {w0 w : World} {b : Nat} {c : Cd} {s : Ls} {S : St} {wv : Nat → Value} (h : Lk w0 w b c s S wv) (o : Int) (x y z : Nat) (hm : Nm o x y) (hbd : Bd S 1000) (ho : o = 3) :
    Calls Tryz.prog 81 #[.pointer (some ⟨b, 0, none⟩), .agg #[.int .i64 o, .int .i64 x, .int .i64 y, .int .i64 z]] w fun e w' => e = .returned (.tuple #[]) ∧ (∃ wv', Lk w0 w' b c s (pastP S (o, x, y, z)) wv') ∧ Below b w w' := by
  have hlt := h.lt
  have HL : Hid (Li w0 w (w.alloc (.cells #[.int .i64 o, .int .i64 (x : Int), .int .i64 (y : Int), .int .i64 (z : Int)] 65)) b c s S wv o x y z) := Li.start h o x y z
  have HM : Hid (Nm o x y) := hm
  have HB : Hid (Bd S 1000) := hbd
  clear h hm hbd
  have e1 : (o == 1) = false := by simp [ho]
  have e2 : (o == 2) = false := by simp [ho]
  have e3 : (o == 3) = true := by simp [ho]
  have HE : Hid (pastP S (o, (x : Int), (y : Int), (z : Int)) = writeP S x (loadB S (y : Int) (z : Int))) := by show _ = _; simp [pastP, ho]
  have hx := HM.out.a (by omega)
  have hy := HM.out.b3 ho
  clear ho
  go_enter Tryz.func81, Tryz.ntmps81
  go_upto_region 7 with (fail)
  generalize w.alloc (.cells #[.int .i64 o, .int .i64 (x : Int), .int .i64 (y : Int), .int .i64 (z : Int)] 65) = wd at *
  have HD : Hid (Li w0 w wd.drew b c s S wv o x y z) := HL.out.drew
  have HS : Hid (wd.drew.cell? ⟨w.heap.size, 1, none⟩ = some (.int .i64 (x : Int)) ∧ wd.drew.cell? ⟨w.heap.size, 2, none⟩ = some (.int .i64 (y : Int)) ∧ wd.drew.cell? ⟨w.heap.size, 3, none⟩ = some (.int .i64 (z : Int))) := ⟨HD.out.i1, HD.out.i2, HD.out.i3⟩
  refine wp_region_Y (fun j => [9].contains j) (fun W : World => W.cell? ⟨w.heap.size, 1, none⟩ = some (.int .i64 (x : Int)) ∧ W.cell? ⟨w.heap.size, 2, none⟩ = some (.int .i64 (y : Int)) ∧ W.cell? ⟨w.heap.size, 3, none⟩ = some (.int .i64 (z : Int))) (by kernel_rfl) ?_
  refine wpAnyY_pure (i := 0) 24 (v := .pointer (some ⟨b, 0, none⟩)) rfl rfl (by kernel_rfl) (by kernel_rfl) (by kernel_rfl) (fun _ _ _ h => h) (Or.inl ⟨by rfl, by (intro W _; go_simp)⟩) ?_
  simp only [Act.put, List.setIfInBounds_toArray, List.set_cons_succ, List.set_cons_zero]
  refine wpAnyY_pure (i := 1) 25 (v := .pointer (some ⟨w.heap.size, 1, none⟩)) rfl rfl (by kernel_rfl) (by kernel_rfl) (by kernel_rfl) (fun _ _ _ h => h) (Or.inl ⟨by rfl, by (intro W _; go_simp)⟩) ?_
  simp only [Act.put, List.setIfInBounds_toArray, List.set_cons_succ, List.set_cons_zero]
  refine wpAnyY_takeD (i := 2) 26 (v := .int .i64 (x : Int)) rfl rfl (by kernel_rfl) (by kernel_rfl) (late_of (by kernel_rfl)) (by kernel_rfl) (by kernel_rfl) (fun _ _ _ h => h) HS.out (Or.inl ⟨by rfl, by (intro W hW; obtain ⟨e1, e2, e3⟩ := hW; go_simp)⟩) ?_
  simp only [Act.put, List.setIfInBounds_toArray, List.set_cons_succ, List.set_cons_zero]
  refine wpAnyY_pure (i := 3) 27 (v := .pointer (some ⟨b, 0, none⟩)) rfl rfl (by kernel_rfl) (by kernel_rfl) (by kernel_rfl) (fun _ _ _ h => h) (Or.inl ⟨by rfl, by (intro W _; go_simp)⟩) ?_
  simp only [Act.put, List.setIfInBounds_toArray, List.set_cons_succ, List.set_cons_zero]
  refine wpAnyY_pure (i := 4) 28 (v := .pointer (some ⟨w.heap.size, 2, none⟩)) rfl rfl (by kernel_rfl) (by kernel_rfl) (by kernel_rfl) (fun _ _ _ h => h) (Or.inl ⟨by rfl, by (intro W _; go_simp)⟩) ?_
  simp only [Act.put, List.setIfInBounds_toArray, List.set_cons_succ, List.set_cons_zero]
  refine wpAnyY_takeD (i := 5) 29 (v := .int .i64 (y : Int)) rfl rfl (by kernel_rfl) (by kernel_rfl) (late_of (by kernel_rfl)) (by kernel_rfl) (by kernel_rfl) (fun _ _ _ h => h) HS.out (Or.inl ⟨by rfl, by (intro W hW; obtain ⟨e1, e2, e3⟩ := hW; go_simp)⟩) ?_
  simp only [Act.put, List.setIfInBounds_toArray, List.set_cons_succ, List.set_cons_zero]
  refine wpAnyY_pure (i := 6) 30 (v := .pointer (some ⟨w.heap.size, 3, none⟩)) rfl rfl (by kernel_rfl) (by kernel_rfl) (by kernel_rfl) (fun _ _ _ h => h) (Or.inl ⟨by rfl, by (intro W _; go_simp)⟩) ?_
  simp only [Act.put, List.setIfInBounds_toArray, List.set_cons_succ, List.set_cons_zero]
  refine wpAnyY_takeD (i := 7) 31 (v := .int .i64 (z : Int)) rfl rfl (by kernel_rfl) (by kernel_rfl) (late_of (by kernel_rfl)) (by kernel_rfl) (by kernel_rfl) (fun _ _ _ h => h) HS.out (Or.inl ⟨by rfl, by (intro W hW; obtain ⟨e1, e2, e3⟩ := hW; go_simp)⟩) ?_
  simp only [Act.put, List.setIfInBounds_toArray, List.set_cons_succ, List.set_cons_zero]
  refine wpAnyY_one (i := 8) rfl (by kernel_rfl) (fun Kc hKc => ?_)
  refine step_fnD 32 rfl (by rfl) 104 _ _ rfl Tryz.f104 Tryz.func104 (by kernel_rfl) (by kernel_rfl) #[.pointer (some ⟨b, 0, none⟩), .int .i64 (y : Int), .int .i64 (z : Int)] (by simp [Act.eval]) (loaded_calls HD.out.lk y hy (z : Int)) ?_
  rintro e wb ⟨rfl, hb⟩
  refine ⟨_, rfl, hKc.out _ _ (fun _ h => ⟨cell_bl hb h.1, cell_bl hb h.2.1, cell_bl hb h.2.2⟩) ?_⟩
  clear hKc Kc
  simp only [Act.put, List.setIfInBounds_toArray, List.set_cons_succ, List.set_cons_zero]
  have HF : Hid (Li w0 w wb b c s S wv o x y z) := HD.out.next hb
  clear hb HS
  refine wpAnyY_one (i := 9) rfl (by kernel_rfl) (fun Kc hKc => ?_)
  refine step_fnD 33 rfl (by rfl) 103 _ _ rfl Tryz.f103 Tryz.func103 (by kernel_rfl) (by kernel_rfl) #[.pointer (some ⟨b, 0, none⟩), .int .i64 (x : Int), .agg (rgAgg (loadB S (y : Int) (z : Int)))] (by simp [Act.eval]) (write_calls HF.out.lk x hx (loadB S (y : Int) (z : Int)).wr (loadB S (y : Int) (z : Int)).kind (loadB S (y : Int) (z : Int)).plane (loadB S (y : Int) (z : Int)).step (loadB S (y : Int) (z : Int)).met (loadB S (y : Int) (z : Int)).weight) ?_
  rintro e wc ⟨rfl, hl, hb⟩
  refine ⟨_, rfl, hKc.out _ _ (fun h => absurd h (by decide)) ?_⟩
  clear hKc Kc
  simp only [Act.put, List.setIfInBounds_toArray, List.set_cons_succ, List.set_cons_zero]
  refine wpAnyY_done (by kernel_rfl) ?_ _
  go_wp2
  go_end0
  rw [HE.out]
  have hw : loadB S (y : Int) (z : Int) = ⟨(loadB S (y : Int) (z : Int)).wr, (loadB S (y : Int) (z : Int)).kind, (loadB S (y : Int) (z : Int)).plane, (loadB S (y : Int) (z : Int)).step, (loadB S (y : Int) (z : Int)).met, [], (loadB S (y : Int) (z : Int)).weight⟩ := by
    rw [← load_ways S (y : Int) (z : Int)]
  rw [hw]
  exact ⟨rfl, hl, HF.out.lowb (Nat.le_of_lt hlt) hb⟩

set_option maxRecDepth 10000 in
set_option maxHeartbeats 2000000 in
theorem past4_calls {w0 w : World} {b : Nat} {c : Cd} {s : Ls} {S : St} {wv : Nat → Value} (h : Lk w0 w b c s S wv) (o : Int) (x y z : Nat) (hm : Nm o x y) (hbd : Bd S 1000) (ho : o = 4) :
    Calls Tryz.prog 81 #[.pointer (some ⟨b, 0, none⟩), .agg #[.int .i64 o, .int .i64 x, .int .i64 y, .int .i64 z]] w fun e w' => e = .returned (.tuple #[]) ∧ (∃ wv', Lk w0 w' b c s (pastP S (o, x, y, z)) wv') ∧ Below b w w' := by
  have hlt := h.lt
  have HL : Hid (Li w0 w (w.alloc (.cells #[.int .i64 o, .int .i64 (x : Int), .int .i64 (y : Int), .int .i64 (z : Int)] 65)) b c s S wv o x y z) := Li.start h o x y z
  have HM : Hid (Nm o x y) := hm
  have HB : Hid (Bd S 1000) := hbd
  clear h hm hbd
  have e1 : (o == 1) = false := by simp [ho]
  have e2 : (o == 2) = false := by simp [ho]
  have e3 : (o == 3) = false := by simp [ho]
  have e4 : (o == 4) = true := by simp [ho]
  have HE : Hid (pastP S (o, (x : Int), (y : Int), (z : Int)) = weighP (setR S x (addB (S.regs x))) ((S.regs x).weight + 1)) := by show _ = _; simp [pastP, ho]
  have hx := HM.out.a (by omega)
  have hx' : (x : Int) < 16 := by omega
  have hg := HB.out.reg x
  obtain ⟨hg0, hg1⟩ := hg
  clear ho
  go_enter Tryz.func81, Tryz.ntmps81
  go_upto_region 10 with (fail)
  generalize w.alloc (.cells #[.int .i64 o, .int .i64 (x : Int), .int .i64 (y : Int), .int .i64 (z : Int)] 65) = wd at *
  have f1 := HL.out.i1
  have f6 := HL.out.lk.r6 hx
  have fz := HL.out.lk.fz (10 + x * 7 + 6)
  have hne : w.heap.size ≠ b := by omega
  have hne2 : b ≠ w.heap.size := by omega
  go_region
  have HA : Hid (Lj w0 w (wd.setCell ⟨b, 10 + x * 7 + 6, none⟩ (.int .i64 ((S.regs x).weight + 1))).drew b c s (setR S x (addB (S.regs x))) wv o x y z) := HL.out.add hlt x hx
  clear f1 f6 fz hne hne2
  generalize (wd.setCell ⟨b, 10 + x * 7 + 6, none⟩ (.int .i64 ((S.regs x).weight + 1))).drew = we at *
  go_upto_region 11 with (fail)
  have HD : Hid (Lj w0 w we.drew b c s (setR S x (addB (S.regs x))) wv o x y z) := HA.out.drew
  have HR6 := HD.out.lk.r6 hx
  rw [regs_set] at HR6
  have HS : Hid (we.drew.cell? ⟨w.heap.size, 1, none⟩ = some (.int .i64 (x : Int)) ∧ we.drew.cell? ⟨b, 10 + x * 7 + 6, none⟩ = some (.int .i64 ((S.regs x).weight + 1))) := ⟨HD.out.i1, HR6⟩
  clear HR6
  refine wp_region_Y (fun j => [9].contains j) (fun W : World => W.cell? ⟨w.heap.size, 1, none⟩ = some (.int .i64 (x : Int)) ∧ W.cell? ⟨b, 10 + x * 7 + 6, none⟩ = some (.int .i64 ((S.regs x).weight + 1))) (by kernel_rfl) ?_
  refine wpAnyY_pure (i := 0) 50 (v := .pointer (some ⟨b, 0, none⟩)) rfl rfl (by kernel_rfl) (by kernel_rfl) (by kernel_rfl) (fun _ _ _ h => h) (Or.inl ⟨by rfl, by (intro W _; go_simp)⟩) ?_
  simp only [Act.put, List.setIfInBounds_toArray, List.set_cons_succ, List.set_cons_zero]
  refine wpAnyY_pure (i := 1) 51 (v := .pointer (some ⟨b, 0, none⟩)) rfl rfl (by kernel_rfl) (by kernel_rfl) (by kernel_rfl) (fun _ _ _ h => h) (Or.inl ⟨by rfl, by (intro W _; go_simp)⟩) ?_
  simp only [Act.put, List.setIfInBounds_toArray, List.set_cons_succ, List.set_cons_zero]
  refine wpAnyY_pure (i := 2) 52 (v := .pointer (some ⟨w.heap.size, 1, none⟩)) rfl rfl (by kernel_rfl) (by kernel_rfl) (by kernel_rfl) (fun _ _ _ h => h) (Or.inl ⟨by rfl, by (intro W _; go_simp)⟩) ?_
  simp only [Act.put, List.setIfInBounds_toArray, List.set_cons_succ, List.set_cons_zero]
  refine wpAnyY_takeD (i := 3) 53 (v := .int .i64 (x : Int)) rfl rfl (by kernel_rfl) (by kernel_rfl) (late_of (by kernel_rfl)) (by kernel_rfl) (by kernel_rfl) (fun _ _ _ h => h) HS.out (Or.inl ⟨by rfl, by (intro W hW; obtain ⟨e1, e6⟩ := hW; go_simp)⟩) ?_
  simp only [Act.put, List.setIfInBounds_toArray, List.set_cons_succ, List.set_cons_zero]
  refine wpAnyY_pure (i := 4) 54 (v := .pointer (some ⟨b, 0, none⟩)) rfl rfl (by kernel_rfl) (by kernel_rfl) (by kernel_rfl) (fun _ _ _ h => h) (Or.inl ⟨by rfl, by (intro W _; go_simp)⟩) ?_
  simp only [Act.put, List.setIfInBounds_toArray, List.set_cons_succ, List.set_cons_zero]
  refine wpAnyY_pure (i := 5) 55 (v := .pointer (some ⟨b, 10, none⟩)) rfl rfl (by kernel_rfl) (by kernel_rfl) (by kernel_rfl) (fun _ _ _ h => h) (Or.inl ⟨by rfl, by (intro W _; go_simp)⟩) ?_
  simp only [Act.put, List.setIfInBounds_toArray, List.set_cons_succ, List.set_cons_zero]
  refine wpAnyY_pure (i := 6) 56 (v := .pointer (some ⟨b, 10 + x * 7, none⟩)) rfl rfl (by kernel_rfl) (by kernel_rfl) (by kernel_rfl) (fun _ _ _ h => h) (Or.inl ⟨by rfl, by (intro W _; go_simp)⟩) ?_
  simp only [Act.put, List.setIfInBounds_toArray, List.set_cons_succ, List.set_cons_zero]
  refine wpAnyY_pure (i := 7) 57 (v := .pointer (some ⟨b, 10 + x * 7 + 6, none⟩)) rfl rfl (by kernel_rfl) (by kernel_rfl) (by kernel_rfl) (fun _ _ _ h => h) (Or.inl ⟨by rfl, by (intro W _; go_simp)⟩) ?_
  simp only [Act.put, List.setIfInBounds_toArray, List.set_cons_succ, List.set_cons_zero]
  refine wpAnyY_takeD (i := 8) 58 (v := .int .i64 ((S.regs x).weight + 1)) rfl rfl (by kernel_rfl) (by kernel_rfl) (late_of (by kernel_rfl)) (by kernel_rfl) (by kernel_rfl) (fun _ _ _ h => h) HS.out (Or.inl ⟨by rfl, by (intro W hW; obtain ⟨e1, e6⟩ := hW; go_simp)⟩) ?_
  simp only [Act.put, List.setIfInBounds_toArray, List.set_cons_succ, List.set_cons_zero]
  refine wpAnyY_one (i := 9) rfl (by kernel_rfl) (fun Kc hKc => ?_)
  refine step_fnD 59 rfl (by rfl) 105 _ _ rfl Tryz.f105 Tryz.func105 (by kernel_rfl) (by kernel_rfl) #[.pointer (some ⟨b, 0, none⟩), .int .i64 ((S.regs x).weight + 1)] (by simp [Act.eval]) (weigh_calls HD.out.lk ((S.regs x).weight + 1)) ?_
  rintro e wc ⟨rfl, hl, hb⟩
  refine ⟨_, rfl, hKc.out _ _ (fun h => absurd h (by decide)) ?_⟩
  clear hKc Kc
  simp only [Act.put, List.setIfInBounds_toArray, List.set_cons_succ, List.set_cons_zero]
  refine wpAnyY_done (by kernel_rfl) ?_ _
  go_wp2
  go_end0
  rw [HE.out]
  exact ⟨rfl, ⟨_, hl⟩, HD.out.low.trans hb⟩

set_option maxRecDepth 10000 in
set_option maxHeartbeats 2000000 in
theorem past5_calls {w0 w : World} {b : Nat} {c : Cd} {s : Ls} {S : St} {wv : Nat → Value} (h : Lk w0 w b c s S wv) (o : Int) (x y z : Nat) (hm : Nm o x y) (hbd : Bd S 1000) (ho : o = 5) :
    Calls Tryz.prog 81 #[.pointer (some ⟨b, 0, none⟩), .agg #[.int .i64 o, .int .i64 x, .int .i64 y, .int .i64 z]] w fun e w' => e = .returned (.tuple #[]) ∧ (∃ wv', Lk w0 w' b c s (pastP S (o, x, y, z)) wv') ∧ Below b w w' := by
  have hlt := h.lt
  have HL : Hid (Li w0 w (w.alloc (.cells #[.int .i64 o, .int .i64 (x : Int), .int .i64 (y : Int), .int .i64 (z : Int)] 65)) b c s S wv o x y z) := Li.start h o x y z
  have HM : Hid (Nm o x y) := hm
  have HB : Hid (Bd S 1000) := hbd
  clear h hm hbd
  have e1 : (o == 1) = false := by simp [ho]
  have e2 : (o == 2) = false := by simp [ho]
  have e3 : (o == 3) = false := by simp [ho]
  have e4 : (o == 4) = false := by simp [ho]
  have e5 : (o == 5) = true := by simp [ho]
  have HE : Hid (pastP S (o, (x : Int), (y : Int), (z : Int)) = weighP (setR S x (addB (S.regs x))) ((S.regs x).weight + 1)) := by show _ = _; simp [pastP, ho]
  have hx := HM.out.a (by omega)
  have hx' : (x : Int) < 16 := by omega
  have hg := HB.out.reg x
  obtain ⟨hg0, hg1⟩ := hg
  clear ho
  go_enter Tryz.func81, Tryz.ntmps81
  go_upto_region 10 with (fail)
  generalize w.alloc (.cells #[.int .i64 o, .int .i64 (x : Int), .int .i64 (y : Int), .int .i64 (z : Int)] 65) = wd at *
  have f1 := HL.out.i1
  have f6 := HL.out.lk.r6 hx
  have fz := HL.out.lk.fz (10 + x * 7 + 6)
  have hne : w.heap.size ≠ b := by omega
  have hne2 : b ≠ w.heap.size := by omega
  go_region
  have HA : Hid (Lj w0 w (wd.setCell ⟨b, 10 + x * 7 + 6, none⟩ (.int .i64 ((S.regs x).weight + 1))).drew b c s (setR S x (addB (S.regs x))) wv o x y z) := HL.out.add hlt x hx
  clear f1 f6 fz hne hne2
  generalize (wd.setCell ⟨b, 10 + x * 7 + 6, none⟩ (.int .i64 ((S.regs x).weight + 1))).drew = we at *
  go_upto_region 11 with (fail)
  have HD : Hid (Lj w0 w we.drew b c s (setR S x (addB (S.regs x))) wv o x y z) := HA.out.drew
  have HR6 := HD.out.lk.r6 hx
  rw [regs_set] at HR6
  have HS : Hid (we.drew.cell? ⟨w.heap.size, 1, none⟩ = some (.int .i64 (x : Int)) ∧ we.drew.cell? ⟨b, 10 + x * 7 + 6, none⟩ = some (.int .i64 ((S.regs x).weight + 1))) := ⟨HD.out.i1, HR6⟩
  clear HR6
  refine wp_region_Y (fun j => [9].contains j) (fun W : World => W.cell? ⟨w.heap.size, 1, none⟩ = some (.int .i64 (x : Int)) ∧ W.cell? ⟨b, 10 + x * 7 + 6, none⟩ = some (.int .i64 ((S.regs x).weight + 1))) (by kernel_rfl) ?_
  refine wpAnyY_pure (i := 0) 50 (v := .pointer (some ⟨b, 0, none⟩)) rfl rfl (by kernel_rfl) (by kernel_rfl) (by kernel_rfl) (fun _ _ _ h => h) (Or.inl ⟨by rfl, by (intro W _; go_simp)⟩) ?_
  simp only [Act.put, List.setIfInBounds_toArray, List.set_cons_succ, List.set_cons_zero]
  refine wpAnyY_pure (i := 1) 51 (v := .pointer (some ⟨b, 0, none⟩)) rfl rfl (by kernel_rfl) (by kernel_rfl) (by kernel_rfl) (fun _ _ _ h => h) (Or.inl ⟨by rfl, by (intro W _; go_simp)⟩) ?_
  simp only [Act.put, List.setIfInBounds_toArray, List.set_cons_succ, List.set_cons_zero]
  refine wpAnyY_pure (i := 2) 52 (v := .pointer (some ⟨w.heap.size, 1, none⟩)) rfl rfl (by kernel_rfl) (by kernel_rfl) (by kernel_rfl) (fun _ _ _ h => h) (Or.inl ⟨by rfl, by (intro W _; go_simp)⟩) ?_
  simp only [Act.put, List.setIfInBounds_toArray, List.set_cons_succ, List.set_cons_zero]
  refine wpAnyY_takeD (i := 3) 53 (v := .int .i64 (x : Int)) rfl rfl (by kernel_rfl) (by kernel_rfl) (late_of (by kernel_rfl)) (by kernel_rfl) (by kernel_rfl) (fun _ _ _ h => h) HS.out (Or.inl ⟨by rfl, by (intro W hW; obtain ⟨e1, e6⟩ := hW; go_simp)⟩) ?_
  simp only [Act.put, List.setIfInBounds_toArray, List.set_cons_succ, List.set_cons_zero]
  refine wpAnyY_pure (i := 4) 54 (v := .pointer (some ⟨b, 0, none⟩)) rfl rfl (by kernel_rfl) (by kernel_rfl) (by kernel_rfl) (fun _ _ _ h => h) (Or.inl ⟨by rfl, by (intro W _; go_simp)⟩) ?_
  simp only [Act.put, List.setIfInBounds_toArray, List.set_cons_succ, List.set_cons_zero]
  refine wpAnyY_pure (i := 5) 55 (v := .pointer (some ⟨b, 10, none⟩)) rfl rfl (by kernel_rfl) (by kernel_rfl) (by kernel_rfl) (fun _ _ _ h => h) (Or.inl ⟨by rfl, by (intro W _; go_simp)⟩) ?_
  simp only [Act.put, List.setIfInBounds_toArray, List.set_cons_succ, List.set_cons_zero]
  refine wpAnyY_pure (i := 6) 56 (v := .pointer (some ⟨b, 10 + x * 7, none⟩)) rfl rfl (by kernel_rfl) (by kernel_rfl) (by kernel_rfl) (fun _ _ _ h => h) (Or.inl ⟨by rfl, by (intro W _; go_simp)⟩) ?_
  simp only [Act.put, List.setIfInBounds_toArray, List.set_cons_succ, List.set_cons_zero]
  refine wpAnyY_pure (i := 7) 57 (v := .pointer (some ⟨b, 10 + x * 7 + 6, none⟩)) rfl rfl (by kernel_rfl) (by kernel_rfl) (by kernel_rfl) (fun _ _ _ h => h) (Or.inl ⟨by rfl, by (intro W _; go_simp)⟩) ?_
  simp only [Act.put, List.setIfInBounds_toArray, List.set_cons_succ, List.set_cons_zero]
  refine wpAnyY_takeD (i := 8) 58 (v := .int .i64 ((S.regs x).weight + 1)) rfl rfl (by kernel_rfl) (by kernel_rfl) (late_of (by kernel_rfl)) (by kernel_rfl) (by kernel_rfl) (fun _ _ _ h => h) HS.out (Or.inl ⟨by rfl, by (intro W hW; obtain ⟨e1, e6⟩ := hW; go_simp)⟩) ?_
  simp only [Act.put, List.setIfInBounds_toArray, List.set_cons_succ, List.set_cons_zero]
  refine wpAnyY_one (i := 9) rfl (by kernel_rfl) (fun Kc hKc => ?_)
  refine step_fnD 59 rfl (by rfl) 105 _ _ rfl Tryz.f105 Tryz.func105 (by kernel_rfl) (by kernel_rfl) #[.pointer (some ⟨b, 0, none⟩), .int .i64 ((S.regs x).weight + 1)] (by simp [Act.eval]) (weigh_calls HD.out.lk ((S.regs x).weight + 1)) ?_
  rintro e wc ⟨rfl, hl, hb⟩
  refine ⟨_, rfl, hKc.out _ _ (fun h => absurd h (by decide)) ?_⟩
  clear hKc Kc
  simp only [Act.put, List.setIfInBounds_toArray, List.set_cons_succ, List.set_cons_zero]
  refine wpAnyY_done (by kernel_rfl) ?_ _
  go_wp2
  go_end0
  rw [HE.out]
  exact ⟨rfl, ⟨_, hl⟩, HD.out.low.trans hb⟩

set_option maxRecDepth 10000 in
set_option maxHeartbeats 2000000 in
theorem past6_calls {w0 w : World} {b : Nat} {c : Cd} {s : Ls} {S : St} {wv : Nat → Value} (h : Lk w0 w b c s S wv) (o : Int) (x y z : Nat) (hm : Nm o x y) (hbd : Bd S 1000) (ho : o = 6) :
    Calls Tryz.prog 81 #[.pointer (some ⟨b, 0, none⟩), .agg #[.int .i64 o, .int .i64 x, .int .i64 y, .int .i64 z]] w fun e w' => e = .returned (.tuple #[]) ∧ (∃ wv', Lk w0 w' b c s (pastP S (o, x, y, z)) wv') ∧ Below b w w' := by
  have hlt := h.lt
  have HL : Hid (Li w0 w (w.alloc (.cells #[.int .i64 o, .int .i64 (x : Int), .int .i64 (y : Int), .int .i64 (z : Int)] 65)) b c s S wv o x y z) := Li.start h o x y z
  have HM : Hid (Nm o x y) := hm
  have HB : Hid (Bd S 1000) := hbd
  clear h hm hbd
  have e1 : (o == 1) = false := by simp [ho]
  have e2 : (o == 2) = false := by simp [ho]
  have e3 : (o == 3) = false := by simp [ho]
  have e4 : (o == 4) = false := by simp [ho]
  have e5 : (o == 5) = false := by simp [ho]
  have e6 : (o == 6) = true := by simp [ho]
  have HE : Hid (pastP S (o, (x : Int), (y : Int), (z : Int)) = setR S x (meetB (S.regs x) (S.regs y) (z : Int))) := by show _ = _; simp [pastP, ho]
  have hx := HM.out.a (by omega)
  have hx' : (x : Int) < 16 := by omega
  have hy := HM.out.b6 ho
  have hy' : (y : Int) < 16 := by omega
  clear ho
  go_enter Tryz.func81, Tryz.ntmps81
  go_upto_region 13 with (fail)
  generalize w.alloc (.cells #[.int .i64 o, .int .i64 (x : Int), .int .i64 (y : Int), .int .i64 (z : Int)] 65) = wd at *
  have HD : Hid (Li w0 w wd.drew b c s S wv o x y z) := HL.out.drew
  obtain ⟨ya, yc, _, y5, _⟩ := HD.out.lk.ways hy
  have HS : Hid (wd.drew.cell? ⟨w.heap.size, 1, none⟩ = some (.int .i64 (x : Int)) ∧ wd.drew.cell? ⟨w.heap.size, 2, none⟩ = some (.int .i64 (y : Int)) ∧ wd.drew.cell? ⟨w.heap.size, 3, none⟩ = some (.int .i64 (z : Int)) ∧ wd.drew.cell? ⟨b, 10 + y * 7, none⟩ = some (.bool (S.regs y).wr) ∧ wd.drew.cell? ⟨b, 10 + y * 7 + 1, none⟩ = some (.int .i64 (S.regs y).kind) ∧ wd.drew.cell? ⟨b, 10 + y * 7 + 2, none⟩ = some (.int .i64 (S.regs y).plane) ∧ wd.drew.cell? ⟨b, 10 + y * 7 + 3, none⟩ = some (.int .i64 (S.regs y).step) ∧ wd.drew.cell? ⟨b, 10 + y * 7 + 4, none⟩ = some (.bool (S.regs y).met) ∧ wd.drew.cell? ⟨b, 10 + y * 7 + 5, none⟩ = some (.slice ya (S.regs y).ways.length yc) ∧ wd.drew.cell? ⟨b, 10 + y * 7 + 6, none⟩ = some (.int .i64 (S.regs y).weight)) := ⟨HD.out.i1, HD.out.i2, HD.out.i3, HD.out.lk.r0 hy, HD.out.lk.r1 hy, HD.out.lk.r2 hy, HD.out.lk.r3 hy, HD.out.lk.r4 hy, y5, HD.out.lk.r6 hy⟩
  clear y5
  refine wp_region_Y (fun j => [15].contains j) (fun W : World => W.cell? ⟨w.heap.size, 1, none⟩ = some (.int .i64 (x : Int)) ∧ W.cell? ⟨w.heap.size, 2, none⟩ = some (.int .i64 (y : Int)) ∧ W.cell? ⟨w.heap.size, 3, none⟩ = some (.int .i64 (z : Int)) ∧ W.cell? ⟨b, 10 + y * 7, none⟩ = some (.bool (S.regs y).wr) ∧ W.cell? ⟨b, 10 + y * 7 + 1, none⟩ = some (.int .i64 (S.regs y).kind) ∧ W.cell? ⟨b, 10 + y * 7 + 2, none⟩ = some (.int .i64 (S.regs y).plane) ∧ W.cell? ⟨b, 10 + y * 7 + 3, none⟩ = some (.int .i64 (S.regs y).step) ∧ W.cell? ⟨b, 10 + y * 7 + 4, none⟩ = some (.bool (S.regs y).met) ∧ W.cell? ⟨b, 10 + y * 7 + 5, none⟩ = some (.slice ya (S.regs y).ways.length yc) ∧ W.cell? ⟨b, 10 + y * 7 + 6, none⟩ = some (.int .i64 (S.regs y).weight)) (by kernel_rfl) ?_
  refine wpAnyY_pure (i := 0) 62 (v := .pointer (some ⟨b, 0, none⟩)) rfl rfl (by kernel_rfl) (by kernel_rfl) (by kernel_rfl) (fun _ _ _ h => h) (Or.inl ⟨by rfl, by (intro W _; go_simp)⟩) ?_
  simp only [Act.put, List.setIfInBounds_toArray, List.set_cons_succ, List.set_cons_zero]
  refine wpAnyY_pure (i := 1) 63 (v := .pointer (some ⟨w.heap.size, 1, none⟩)) rfl rfl (by kernel_rfl) (by kernel_rfl) (by kernel_rfl) (fun _ _ _ h => h) (Or.inl ⟨by rfl, by (intro W _; go_simp)⟩) ?_
  simp only [Act.put, List.setIfInBounds_toArray, List.set_cons_succ, List.set_cons_zero]
  refine wpAnyY_takeD (i := 2) 64 (v := .int .i64 (x : Int)) rfl rfl (by kernel_rfl) (by kernel_rfl) (late_of (by kernel_rfl)) (by kernel_rfl) (by kernel_rfl) (fun _ _ _ h => h) HS.out (Or.inl ⟨by rfl, by (intro W hW; obtain ⟨i1, i2, i3, q0, q1, q2, q3, q4, q5, q6⟩ := hW; go_simp)⟩) ?_
  simp only [Act.put, List.setIfInBounds_toArray, List.set_cons_succ, List.set_cons_zero]
  refine wpAnyY_pure (i := 3) 65 (v := .pointer (some ⟨b, 0, none⟩)) rfl rfl (by kernel_rfl) (by kernel_rfl) (by kernel_rfl) (fun _ _ _ h => h) (Or.inl ⟨by rfl, by (intro W _; go_simp)⟩) ?_
  simp only [Act.put, List.setIfInBounds_toArray, List.set_cons_succ, List.set_cons_zero]
  refine wpAnyY_pure (i := 4) 66 (v := .pointer (some ⟨b, 10, none⟩)) rfl rfl (by kernel_rfl) (by kernel_rfl) (by kernel_rfl) (fun _ _ _ h => h) (Or.inl ⟨by rfl, by (intro W _; go_simp)⟩) ?_
  simp only [Act.put, List.setIfInBounds_toArray, List.set_cons_succ, List.set_cons_zero]
  refine wpAnyY_pure (i := 5) 67 (v := .pointer (some ⟨b, 10 + x * 7, none⟩)) rfl rfl (by kernel_rfl) (by kernel_rfl) (by kernel_rfl) (fun _ _ _ h => h) (Or.inl ⟨by rfl, by (intro W _; go_simp)⟩) ?_
  simp only [Act.put, List.setIfInBounds_toArray, List.set_cons_succ, List.set_cons_zero]
  refine wpAnyY_pure (i := 6) 68 (v := .pointer (some ⟨b, 0, none⟩)) rfl rfl (by kernel_rfl) (by kernel_rfl) (by kernel_rfl) (fun _ _ _ h => h) (Or.inl ⟨by rfl, by (intro W _; go_simp)⟩) ?_
  simp only [Act.put, List.setIfInBounds_toArray, List.set_cons_succ, List.set_cons_zero]
  refine wpAnyY_pure (i := 7) 69 (v := .pointer (some ⟨w.heap.size, 2, none⟩)) rfl rfl (by kernel_rfl) (by kernel_rfl) (by kernel_rfl) (fun _ _ _ h => h) (Or.inl ⟨by rfl, by (intro W _; go_simp)⟩) ?_
  simp only [Act.put, List.setIfInBounds_toArray, List.set_cons_succ, List.set_cons_zero]
  refine wpAnyY_takeD (i := 8) 70 (v := .int .i64 (y : Int)) rfl rfl (by kernel_rfl) (by kernel_rfl) (late_of (by kernel_rfl)) (by kernel_rfl) (by kernel_rfl) (fun _ _ _ h => h) HS.out (Or.inl ⟨by rfl, by (intro W hW; obtain ⟨i1, i2, i3, q0, q1, q2, q3, q4, q5, q6⟩ := hW; go_simp)⟩) ?_
  simp only [Act.put, List.setIfInBounds_toArray, List.set_cons_succ, List.set_cons_zero]
  refine wpAnyY_pure (i := 9) 71 (v := .pointer (some ⟨b, 0, none⟩)) rfl rfl (by kernel_rfl) (by kernel_rfl) (by kernel_rfl) (fun _ _ _ h => h) (Or.inl ⟨by rfl, by (intro W _; go_simp)⟩) ?_
  simp only [Act.put, List.setIfInBounds_toArray, List.set_cons_succ, List.set_cons_zero]
  refine wpAnyY_pure (i := 10) 72 (v := .pointer (some ⟨b, 10, none⟩)) rfl rfl (by kernel_rfl) (by kernel_rfl) (by kernel_rfl) (fun _ _ _ h => h) (Or.inl ⟨by rfl, by (intro W _; go_simp)⟩) ?_
  simp only [Act.put, List.setIfInBounds_toArray, List.set_cons_succ, List.set_cons_zero]
  refine wpAnyY_pure (i := 11) 73 (v := .pointer (some ⟨b, 10 + y * 7, none⟩)) rfl rfl (by kernel_rfl) (by kernel_rfl) (by kernel_rfl) (fun _ _ _ h => h) (Or.inl ⟨by rfl, by (intro W _; go_simp)⟩) ?_
  simp only [Act.put, List.setIfInBounds_toArray, List.set_cons_succ, List.set_cons_zero]
  refine wpAnyY_takeD (i := 12) 74 (v := .agg #[.bool (S.regs y).wr, .int .i64 (S.regs y).kind, .int .i64 (S.regs y).plane, .int .i64 (S.regs y).step, .bool (S.regs y).met, .slice ya (S.regs y).ways.length yc, .int .i64 (S.regs y).weight]) rfl rfl (by kernel_rfl) (by kernel_rfl) (late_of (by kernel_rfl)) (by kernel_rfl) (by kernel_rfl) (fun _ _ _ h => h) HS.out (Or.inl ⟨by rfl, by (intro W hW; obtain ⟨i1, i2, i3, q0, q1, q2, q3, q4, q5, q6⟩ := hW; go_simp)⟩) ?_
  simp only [Act.put, List.setIfInBounds_toArray, List.set_cons_succ, List.set_cons_zero]
  refine wpAnyY_pure (i := 13) 75 (v := .pointer (some ⟨w.heap.size, 3, none⟩)) rfl rfl (by kernel_rfl) (by kernel_rfl) (by kernel_rfl) (fun _ _ _ h => h) (Or.inl ⟨by rfl, by (intro W _; go_simp)⟩) ?_
  simp only [Act.put, List.setIfInBounds_toArray, List.set_cons_succ, List.set_cons_zero]
  refine wpAnyY_takeD (i := 14) 76 (v := .int .i64 (z : Int)) rfl rfl (by kernel_rfl) (by kernel_rfl) (late_of (by kernel_rfl)) (by kernel_rfl) (by kernel_rfl) (fun _ _ _ h => h) HS.out (Or.inl ⟨by rfl, by (intro W hW; obtain ⟨i1, i2, i3, q0, q1, q2, q3, q4, q5, q6⟩ := hW; go_simp)⟩) ?_
  simp only [Act.put, List.setIfInBounds_toArray, List.set_cons_succ, List.set_cons_zero]
  refine wpAnyY_one (i := 15) rfl (by kernel_rfl) (fun Kc hKc => ?_)
  refine step_fnD 77 rfl (by rfl) 106 _ _ rfl Tryz.f106 Tryz.func106 (by kernel_rfl) (by kernel_rfl) #[.pointer (some ⟨b, 10 + x * 7, none⟩), .agg #[.bool (S.regs y).wr, .int .i64 (S.regs y).kind, .int .i64 (S.regs y).plane, .int .i64 (S.regs y).step, .bool (S.regs y).met, .slice ya (S.regs y).ways.length yc, .int .i64 (S.regs y).weight], .int .i64 (z : Int)] (by simp [Act.eval]) (meet_calls HD.out.lk hx (HB.out.ways x) (S.regs y) ya _ yc (z : Int)) ?_
  rintro e wc ⟨rfl, hl, hb⟩
  refine ⟨_, rfl, hKc.out _ _ (fun h => absurd h (by decide)) ?_⟩
  clear hKc Kc
  simp only [Act.put, List.setIfInBounds_toArray, List.set_cons_succ, List.set_cons_zero]
  refine wpAnyY_done (by kernel_rfl) ?_ _
  go_wp2
  go_end0
  rw [HE.out]
  exact ⟨rfl, hl, HD.out.lowb (Nat.le_of_lt hlt) hb⟩

set_option maxRecDepth 10000 in
set_option maxHeartbeats 2000000 in
theorem past7_calls {w0 w : World} {b : Nat} {c : Cd} {s : Ls} {S : St} {wv : Nat → Value} (h : Lk w0 w b c s S wv) (o : Int) (x y z : Nat) (hm : Nm o x y) (hbd : Bd S 1000) (ho : o = 7) :
    Calls Tryz.prog 81 #[.pointer (some ⟨b, 0, none⟩), .agg #[.int .i64 o, .int .i64 x, .int .i64 y, .int .i64 z]] w fun e w' => e = .returned (.tuple #[]) ∧ (∃ wv', Lk w0 w' b c s (pastP S (o, x, y, z)) wv') ∧ Below b w w' := by
  have hlt := h.lt
  have HL : Hid (Li w0 w (w.alloc (.cells #[.int .i64 o, .int .i64 (x : Int), .int .i64 (y : Int), .int .i64 (z : Int)] 65)) b c s S wv o x y z) := Li.start h o x y z
  have HM : Hid (Nm o x y) := hm
  have HB : Hid (Bd S 1000) := hbd
  clear h hm hbd
  have e1 : (o == 1) = false := by simp [ho]
  have e2 : (o == 2) = false := by simp [ho]
  have e3 : (o == 3) = false := by simp [ho]
  have e4 : (o == 4) = false := by simp [ho]
  have e5 : (o == 5) = false := by simp [ho]
  have e6 : (o == 6) = false := by simp [ho]
  have e7 : (o == 7) = true := by simp [ho]
  have HE : Hid (pastP S (o, (x : Int), (y : Int), (z : Int)) = setP S x (true, (S.regs y).weight)) := by show _ = _; simp [pastP, ho]
  obtain ⟨hx, hy⟩ := HM.out.p7 ho
  have hx' : (x : Int) < 10 := by omega
  have hy' : (y : Int) < 16 := by omega
  clear ho
  go_enter Tryz.func81, Tryz.ntmps81
  go_upto_region 15 with (fail)
  generalize w.alloc (.cells #[.int .i64 o, .int .i64 (x : Int), .int .i64 (y : Int), .int .i64 (z : Int)] 65) = wd at *
  have f1 := HL.out.i1
  have f2 := HL.out.i2
  have f6 := HL.out.lk.r6 hy
  have g0 := HL.out.lk.pl0 x hx
  have g1 := HL.out.lk.pl1 x hx
  have fz := HL.out.lk.fz
  have hne : w.heap.size ≠ b := by omega
  have hne2 : b ≠ w.heap.size := by omega
  go_region
  go_wp2
  go_end0
  rw [HE.out]
  exact ⟨rfl, ⟨_, (HL.out.lk.keep hx true (S.regs y).weight).drewN 1⟩, below_drewN (((HL.out.low.mono (Nat.le_of_lt hlt)).setCell (p := ⟨b, 122 + x * 2, none⟩) (Nat.le_refl b) _).setCell (p := ⟨b, 122 + x * 2 + 1, none⟩) (Nat.le_refl b) _) 1⟩

set_option maxRecDepth 10000 in
set_option maxHeartbeats 2000000 in
theorem past8_calls {w0 w : World} {b : Nat} {c : Cd} {s : Ls} {S : St} {wv : Nat → Value} (h : Lk w0 w b c s S wv) (o : Int) (x y z : Nat) (hm : Nm o x y) (hbd : Bd S 1000) (ho : o = 8) :
    Calls Tryz.prog 81 #[.pointer (some ⟨b, 0, none⟩), .agg #[.int .i64 o, .int .i64 x, .int .i64 y, .int .i64 z]] w fun e w' => e = .returned (.tuple #[]) ∧ (∃ wv', Lk w0 w' b c s (pastP S (o, x, y, z)) wv') ∧ Below b w w' := by
  have hlt := h.lt
  have HL : Hid (Li w0 w (w.alloc (.cells #[.int .i64 o, .int .i64 (x : Int), .int .i64 (y : Int), .int .i64 (z : Int)] 65)) b c s S wv o x y z) := Li.start h o x y z
  have HM : Hid (Nm o x y) := hm
  have HB : Hid (Bd S 1000) := hbd
  clear h hm hbd
  have e1 : (o == 1) = false := by simp [ho]
  have e2 : (o == 2) = false := by simp [ho]
  have e3 : (o == 3) = false := by simp [ho]
  have e4 : (o == 4) = false := by simp [ho]
  have e5 : (o == 5) = false := by simp [ho]
  have e6 : (o == 6) = false := by simp [ho]
  have e7 : (o == 7) = false := by simp [ho]
  have e8 : (o == 8) = true := by simp [ho]
  have HE : Hid (pastP S (o, (x : Int), (y : Int), (z : Int)) = weighP S ((S.pl x).2 + 1)) := by show _ = _; simp [pastP, ho]
  have hx := HM.out.p8 ho
  have hx' : (x : Int) < 10 := by omega
  obtain ⟨hg0, hg1⟩ := HB.out.pl x
  clear ho
  go_enter Tryz.func81, Tryz.ntmps81
  go_upto_region 17 with (fail)
  generalize w.alloc (.cells #[.int .i64 o, .int .i64 (x : Int), .int .i64 (y : Int), .int .i64 (z : Int)] 65) = wd at *
  have HD : Hid (Li w0 w wd.drew b c s S wv o x y z) := HL.out.drew
  have HS : Hid (wd.drew.cell? ⟨w.heap.size, 1, none⟩ = some (.int .i64 (x : Int)) ∧ wd.drew.cell? ⟨b, 122 + x * 2 + 1, none⟩ = some (.int .i64 (S.pl x).2)) := ⟨HD.out.i1, HD.out.lk.pl1 x hx⟩
  refine wp_region_Y (fun j => [10].contains j) (fun W : World => W.cell? ⟨w.heap.size, 1, none⟩ = some (.int .i64 (x : Int)) ∧ W.cell? ⟨b, 122 + x * 2 + 1, none⟩ = some (.int .i64 (S.pl x).2)) (by kernel_rfl) ?_
  refine wpAnyY_pure (i := 0) 97 (v := .pointer (some ⟨b, 0, none⟩)) rfl rfl (by kernel_rfl) (by kernel_rfl) (by kernel_rfl) (fun _ _ _ h => h) (Or.inl ⟨by rfl, by (intro W _; go_simp)⟩) ?_
  simp only [Act.put, List.setIfInBounds_toArray, List.set_cons_succ, List.set_cons_zero]
  refine wpAnyY_pure (i := 1) 98 (v := .pointer (some ⟨b, 0, none⟩)) rfl rfl (by kernel_rfl) (by kernel_rfl) (by kernel_rfl) (fun _ _ _ h => h) (Or.inl ⟨by rfl, by (intro W _; go_simp)⟩) ?_
  simp only [Act.put, List.setIfInBounds_toArray, List.set_cons_succ, List.set_cons_zero]
  refine wpAnyY_pure (i := 2) 99 (v := .pointer (some ⟨w.heap.size, 1, none⟩)) rfl rfl (by kernel_rfl) (by kernel_rfl) (by kernel_rfl) (fun _ _ _ h => h) (Or.inl ⟨by rfl, by (intro W _; go_simp)⟩) ?_
  simp only [Act.put, List.setIfInBounds_toArray, List.set_cons_succ, List.set_cons_zero]
  refine wpAnyY_takeD (i := 3) 100 (v := .int .i64 (x : Int)) rfl rfl (by kernel_rfl) (by kernel_rfl) (late_of (by kernel_rfl)) (by kernel_rfl) (by kernel_rfl) (fun _ _ _ h => h) HS.out (Or.inl ⟨by rfl, by (intro W hW; obtain ⟨i1, q6⟩ := hW; go_simp)⟩) ?_
  simp only [Act.put, List.setIfInBounds_toArray, List.set_cons_succ, List.set_cons_zero]
  refine wpAnyY_pure (i := 4) 101 (v := .pointer (some ⟨b, 0, none⟩)) rfl rfl (by kernel_rfl) (by kernel_rfl) (by kernel_rfl) (fun _ _ _ h => h) (Or.inl ⟨by rfl, by (intro W _; go_simp)⟩) ?_
  simp only [Act.put, List.setIfInBounds_toArray, List.set_cons_succ, List.set_cons_zero]
  refine wpAnyY_pure (i := 5) 102 (v := .pointer (some ⟨b, 122, none⟩)) rfl rfl (by kernel_rfl) (by kernel_rfl) (by kernel_rfl) (fun _ _ _ h => h) (Or.inl ⟨by rfl, by (intro W _; go_simp)⟩) ?_
  simp only [Act.put, List.setIfInBounds_toArray, List.set_cons_succ, List.set_cons_zero]
  refine wpAnyY_pure (i := 6) 103 (v := .pointer (some ⟨b, 122 + x * 2, none⟩)) rfl rfl (by kernel_rfl) (by kernel_rfl) (by kernel_rfl) (fun _ _ _ h => h) (Or.inl ⟨by rfl, by (intro W _; go_simp)⟩) ?_
  simp only [Act.put, List.setIfInBounds_toArray, List.set_cons_succ, List.set_cons_zero]
  refine wpAnyY_pure (i := 7) 104 (v := .pointer (some ⟨b, 122 + x * 2 + 1, none⟩)) rfl rfl (by kernel_rfl) (by kernel_rfl) (by kernel_rfl) (fun _ _ _ h => h) (Or.inl ⟨by rfl, by (intro W _; go_simp)⟩) ?_
  simp only [Act.put, List.setIfInBounds_toArray, List.set_cons_succ, List.set_cons_zero]
  refine wpAnyY_takeD (i := 8) 105 (v := .int .i64 (S.pl x).2) rfl rfl (by kernel_rfl) (by kernel_rfl) (late_of (by kernel_rfl)) (by kernel_rfl) (by kernel_rfl) (fun _ _ _ h => h) HS.out (Or.inl ⟨by rfl, by (intro W hW; obtain ⟨i1, q6⟩ := hW; go_simp)⟩) ?_
  simp only [Act.put, List.setIfInBounds_toArray, List.set_cons_succ, List.set_cons_zero]
  refine wpAnyY_pure (i := 9) 106 (v := .int .i64 ((S.pl x).2 + 1)) rfl rfl (by kernel_rfl) (by kernel_rfl) (by kernel_rfl) (fun _ _ _ h => h) (Or.inl ⟨by rfl, by (intro W _; go_simp; exact (IntWalk.i64_left _).trans (by unfold wrap64; omega))⟩) ?_
  simp only [Act.put, List.setIfInBounds_toArray, List.set_cons_succ, List.set_cons_zero]
  refine wpAnyY_one (i := 10) rfl (by kernel_rfl) (fun Kc hKc => ?_)
  refine step_fnD 107 rfl (by rfl) 105 _ _ rfl Tryz.f105 Tryz.func105 (by kernel_rfl) (by kernel_rfl) #[.pointer (some ⟨b, 0, none⟩), .int .i64 ((S.pl x).2 + 1)] (by simp [Act.eval]) (weigh_calls HD.out.lk ((S.pl x).2 + 1)) ?_
  rintro e wc ⟨rfl, hl, hb⟩
  refine ⟨_, rfl, hKc.out _ _ (fun h => absurd h (by decide)) ?_⟩
  clear hKc Kc
  simp only [Act.put, List.setIfInBounds_toArray, List.set_cons_succ, List.set_cons_zero]
  refine wpAnyY_done (by kernel_rfl) ?_ _
  go_wp2
  go_end0
  rw [HE.out]
  exact ⟨rfl, ⟨_, hl⟩, HD.out.lowb (Nat.le_of_lt hlt) hb⟩
theorem past_calls {w0 w : World} {b : Nat} {c : Cd} {s : Ls} {S : St} {wv : Nat → Value} (h : Lk w0 w b c s S wv) (o : Int) (x y z : Nat) (hm : Nm o x y) (hbd : Bd S 1000) :
    Calls Tryz.prog 81 #[.pointer (some ⟨b, 0, none⟩), .agg #[.int .i64 o, .int .i64 x, .int .i64 y, .int .i64 z]] w fun e w' => e = .returned (.tuple #[]) ∧ (∃ wv', Lk w0 w' b c s (pastP S (o, x, y, z)) wv') ∧ Below b w w' := by
  have h1 := hm.lo
  have h2 := hm.hi
  have : o = 1 ∨ o = 2 ∨ o = 3 ∨ o = 4 ∨ o = 5 ∨ o = 6 ∨ o = 7 ∨ o = 8 := by omega
  rcases this with e | e | e | e | e | e | e | e
  · exact past1_calls h o x y z hm hbd e
  · exact past2_calls h o x y z hm hbd e
  · exact past3_calls h o x y z hm hbd e
  · exact past4_calls h o x y z hm hbd e
  · exact past5_calls h o x y z hm hbd e
  · exact past6_calls h o x y z hm hbd e
  · exact past7_calls h o x y z hm hbd e
  · exact past8_calls h o x y z hm hbd e

end Go.Proofs.YtnkfibahkmmnpaaGreat
namespace Go.Proofs.YtnkfibahkmmnpaaGreat
open Go.RowKit

theorem go_nil (c : Cd) (S : St) (k : Nat) : goP c S k [] = ((-1, 0), S) := rfl
theorem go_bad {c : Cd} {S : St} {k : Nat} {q : Qd} {l : List Qd} {e : Int} (h : errB c S q = e) (he : e ≠ 0) : goP c S k (q :: l) = (((k : Int), e), S) := by
  rw [goP, if_neg (by rw [h]; exact he), h]
theorem go_ok {c : Cd} {S : St} {k : Nat} {q : Qd} {l : List Qd} (h : errB c S q = 0) : goP c S k (q :: l) = goP c (pastP S q) (k + 1) l := by
  rw [goP, if_pos h]
/-- What is told of the instructions. -/
def InsPost (w0 w : World) (b : Nat) (c : Cd) (s : Ls) (e : Ending) (w' : World) : Prop :=
  e = .returned (.tuple #[.int .i64 (goP c (st0 0) 0 c.cell).1.1, .int .i64 (goP c (st0 0) 0 c.cell).1.2]) ∧ (∃ wv, Lk w0 w' b c s (goP c (st0 0) 0 c.cell).2 wv) ∧ Bd (goP c (st0 0) 0 c.cell).2 1000 ∧ Below b w w'
theorem ins_post {w0 w w' : World} {b : Nat} {c : Cd} {s : Ls} {S : St} {wv : Nat → Value} {a e : Int} (h : goP c (st0 0) 0 c.cell = ((a, e), S)) (hl : Lk w0 w' b c s S wv) (hb : Bd S 1000) (hw : Below b w w') : InsPost w0 w b c s (.returned (.tuple #[.int .i64 a, .int .i64 e])) w' := by
  unfold InsPost; rw [h]; exact ⟨rfl, ⟨wv, hl⟩, hb, hw⟩
set_option maxRecDepth 10000 in
set_option maxHeartbeats 2000000 in
theorem instructions_calls {w0 w : World} {b : Nat} {c : Cd} {s : Ls} {wv : Nat → Value} (h : Lk w0 w b c s (st0 0) wv) (hr : Rt c) :
    Calls Tryz.prog 51 #[.pointer (some ⟨b, 0, none⟩)] w (InsPost w0 w b c s) := by
  obtain ⟨sT, sK, ⟨ia, n, ic⟩, sR⟩ := s
  have HR : Hid (Rt c) := hr
  have c8 := h.code 8 (by omega) (v := .slice ia n ic) rfl
  have hn : n ≤ 1000 := by have := h.cd.cell.length; simp only at this; rw [← this]; exact hr.clen
  have HN : Hid (c.cell.length = n) := h.cd.cell.length
  have HL : Hid (Lk w0 w b c ⟨sT, sK, ⟨ia, n, ic⟩, sR⟩ (st0 0) wv) := h
  have hres : Tryz.f51.results = #[.tmp 2, .tmp 3] := by kernel_rfl
  clear h hr
  go_enter Tryz.func51, Tryz.ntmps51
  go_wp2
  go_step3
  go_wp2
  go_step3
  go_wp2
  go_loopg [4, 5, 6, 7, 14] n (fun g a4 a5 _ _ i wr => ∃ (k : Nat) (S : St) (wv : Nat → Value), k + g = n ∧ i = .int .i64 k ∧ a4 = .int .i64 (-1) ∧ a5 = .int .i64 0 ∧ goP c (st0 0) 0 c.cell = goP c S k (c.cell.drop k) ∧ Lk w0 wr b c ⟨sT, sK, ⟨ia, n, ic⟩, sR⟩ S wv ∧ Bd S k ∧ Below b w wr)
  case atStart => exact ⟨0, st0 0, wv, Nat.zero_add _, rfl, rfl, rfl, rfl, HL.out, Bd.start, Below.refl _ _⟩
  case round =>
    clear HL c8
    obtain ⟨k, S, wv, hk, rfl, rfl, rfl, hgo, hl, hbd, hlow⟩ := hrel
    have HG : Hid (goP c (st0 0) 0 c.cell = goP c S k (c.cell.drop k)) := hgo
    have HK : Hid (Lk w0 wr b c ⟨sT, sK, ⟨ia, n, ic⟩, sR⟩ S wv) := hl
    have HB : Hid (Bd S k) := hbd
    have HW : Hid (Below b w wr) := hlow
    clear hgo hl hbd hlow
    by_cases hlt : k < n
    · have hkl : k < c.cell.length := by rw [HN.out]; exact hlt
      obtain ⟨q, hq⟩ := get_lt (l := c.cell) (k := k) hkl
      have hrc := HR.out.cell q (List.mem_of_getElem? hq)
      obtain ⟨bb, off, hra, hcs⟩ := HK.out.at'.cell.cells (show 0 < n by omega)
      have hra2 : ia = some ⟨bb, off, none⟩ := hra
      clear hra
      subst hra2
      obtain ⟨c1, c2, c3, c4⟩ := hcs k q hq
      have HD : Hid (c.cell.drop k = q :: c.cell.drop (k + 1)) := by
        show _ = _
        rw [List.drop_eq_getElem_cons hkl]
        rw [List.getElem?_eq_getElem hkl] at hq
        cases hq; rfl
      rw [HD.out] at HG
      clear hcs hq hkl HD
      obtain ⟨o, x0, y0, z0⟩ := q
      simp only at c1 c2 c3 c4 hrc
      obtain ⟨x, rfl⟩ : ∃ x : Nat, x0 = (x : Int) := ⟨x0.toNat, by omega⟩
      obtain ⟨y, rfl⟩ : ∃ y : Nat, y0 = (y : Int) := ⟨y0.toNat, by omega⟩
      obtain ⟨z, rfl⟩ : ∃ z : Nat, z0 = (z : Int) := ⟨z0.toNat, by omega⟩
      have HO : Hid (1 ≤ o ∧ o ≤ 8) := hrc.1
      clear hrc
      have HI0 : Hid (Li w0 wr (wr.alloc (.cells #[.int .i64 o, .int .i64 (x : Int), .int .i64 (y : Int), .int .i64 (z : Int)] 65)) b c ⟨sT, sK, ⟨some ⟨bb, off, none⟩, n, ic⟩, sR⟩ S wv o x y z) := Li.start HK.out o x y z
      have hbw := HK.out.lt
      have HBk : Hid (Bd S 1000) := HB.out.mono (by omega)
      have HLo : Hid (∀ w2, Below wr.heap.size wr w2 → Below b w w2) := fun w2 h2 => HW.out.trans (h2.mono (Nat.le_of_lt HK.out.lt))
      obtain ⟨r1, h1⟩ : ∃ r, namB c (o, (x : Int), (y : Int), (z : Int)) = r := ⟨_, rfl⟩
      have H1 : Hid (namB c (o, (x : Int), (y : Int), (z : Int)) = r1) := h1
      clear h1
      go_wp2_with fail
      refine (named_calls HI0.out.lk o x y z).mono ?_
      rintro e w1 ⟨rfl, hb⟩
      rw [H1.out]
      have HI1 : Hid (Li w0 wr w1 b c ⟨sT, sK, ⟨some ⟨bb, off, none⟩, n, ic⟩, sR⟩ S wv o x y z) := HI0.out.next hb
      clear hb HI0 c1 c2 c3 c4
      cases r1
      · have HE : Hid (errB c S (o, (x : Int), (y : Int), (z : Int)) = 162) := by show _ = _; rw [errB, if_pos H1.out]
        go_wp2
        try rw [Exit.noGoto_ret]
        go_ret2
        exact ins_post (HG.out.trans (go_bad HE.out (by decide))) HI1.out.lk HBk.out (HLo.out _ HI1.out.low)
      have HM : Hid (Nm o x y) := nm_of HR.out HO.out.1 HO.out.2 H1.out
      obtain ⟨r2, h2⟩ : ∃ r, rdB S (o, (x : Int), (y : Int), (z : Int)) = r := ⟨_, rfl⟩
      have H2 : Hid (rdB S (o, (x : Int), (y : Int), (z : Int)) = r2) := h2
      clear h2
      have d0 := HI1.out.i0
      have d1 := HI1.out.i1
      have d2 := HI1.out.i2
      have d3 := HI1.out.i3
      go_wp2_with fail
      refine (readable_calls HI1.out.lk o x y z HM.out).mono ?_
      rintro e w2 ⟨rfl, hb⟩
      rw [H2.out]
      have HI2 : Hid (Li w0 wr w2 b c ⟨sT, sK, ⟨some ⟨bb, off, none⟩, n, ic⟩, sR⟩ S wv o x y z) := HI1.out.next hb
      clear hb HI1 d0 d1 d2 d3
      cases r2
      · have HE : Hid (errB c S (o, (x : Int), (y : Int), (z : Int)) = 163) := by show _ = _; rw [errB, if_neg (by rw [H1.out]; decide), if_pos H2.out]
        go_wp2
        try rw [Exit.noGoto_ret]
        go_ret2
        exact ins_post (HG.out.trans (go_bad HE.out (by decide))) HI2.out.lk HBk.out (HLo.out _ HI2.out.low)
      obtain ⟨r3, h3⟩ : ∃ r, twB S (o, (x : Int), (y : Int), (z : Int)) = r := ⟨_, rfl⟩
      have H3 : Hid (twB S (o, (x : Int), (y : Int), (z : Int)) = r3) := h3
      clear h3
      have d0 := HI2.out.i0
      have d1 := HI2.out.i1
      have d2 := HI2.out.i2
      have d3 := HI2.out.i3
      go_wp2_with fail
      refine (keptTwice_calls HI2.out.lk o x y z HM.out).mono ?_
      rintro e w3 ⟨rfl, hb⟩
      rw [H3.out]
      have HI3 : Hid (Li w0 wr w3 b c ⟨sT, sK, ⟨some ⟨bb, off, none⟩, n, ic⟩, sR⟩ S wv o x y z) := HI2.out.next hb
      clear hb HI2 d0 d1 d2 d3
      cases r3
      rotate_left
      · have HE : Hid (errB c S (o, (x : Int), (y : Int), (z : Int)) = 164) := by show _ = _; rw [errB, if_neg (by rw [H1.out]; decide), if_neg (by rw [H2.out]; decide), if_pos H3.out]
        go_wp2
        try rw [Exit.noGoto_ret]
        go_ret2
        exact ins_post (HG.out.trans (go_bad HE.out (by decide))) HI3.out.lk HBk.out (HLo.out _ HI3.out.low)
      obtain ⟨r4, h4⟩ : ∃ r, gdB c S (o, (x : Int), (y : Int), (z : Int)) = r := ⟨_, rfl⟩
      have H4 : Hid (gdB c S (o, (x : Int), (y : Int), (z : Int)) = r4) := h4
      clear h4
      have d0 := HI3.out.i0
      have d1 := HI3.out.i1
      have d2 := HI3.out.i2
      have d3 := HI3.out.i3
      go_wp2_with fail
      refine (good_calls HI3.out.lk o x y z HM.out).mono ?_
      rintro e w4 ⟨rfl, hb⟩
      rw [H4.out]
      have HI4 : Hid (Li w0 wr w4 b c ⟨sT, sK, ⟨some ⟨bb, off, none⟩, n, ic⟩, sR⟩ S wv o x y z) := HI3.out.next hb
      clear hb HI3 d0 d1 d2 d3
      cases r4
      · have HE : Hid (errB c S (o, (x : Int), (y : Int), (z : Int)) = 161) := by show _ = _; rw [errB, if_neg (by rw [H1.out]; decide), if_neg (by rw [H2.out]; decide), if_neg (by rw [H3.out]; decide), if_pos H4.out]
        go_wp2
        try rw [Exit.noGoto_ret]
        go_ret2
        exact ins_post (HG.out.trans (go_bad HE.out (by decide))) HI4.out.lk HBk.out (HLo.out _ HI4.out.low)
      have HE : Hid (errB c S (o, (x : Int), (y : Int), (z : Int)) = 0) := by show _ = _; rw [errB, if_neg (by rw [H1.out]; decide), if_neg (by rw [H2.out]; decide), if_neg (by rw [H3.out]; decide), if_neg (by rw [H4.out]; decide)]
      have d0 := HI4.out.i0
      have d1 := HI4.out.i1
      have d2 := HI4.out.i2
      have d3 := HI4.out.i3
      go_wp2_with fail
      refine (past_calls HI4.out.lk o x y z HM.out HBk.out).mono ?_
      rintro e w5 ⟨rfl, hl5, hb⟩
      have HF : Hid (Below b w w5) := (HLo.out _ HI4.out.low).trans hb
      have HL5 : Hid (∃ wv', Lk w0 w5 b c ⟨sT, sK, ⟨some ⟨bb, off, none⟩, n, ic⟩, sR⟩ (pastP S (o, (x : Int), (y : Int), (z : Int))) wv') := hl5
      clear hb hl5 d0 d1 d2 d3
      go_wp2
      go_roundg (gk - 1)
      case rel =>
        obtain ⟨wv5, hl⟩ := HL5.out
        exact ⟨k + 1, _, wv5, by omega, by go_num, rfl, rfl, HG.out.trans (go_ok HE.out), hl, HB.out.past _, HF.out⟩
      case measure => omega
    · have hd : Hid (c.cell.drop k = []) := List.drop_of_length_le (by rw [HN.out]; omega)
      go_wp2
      try rw [Exit.noGoto_ret]
      go_ret2
      exact ins_post (by rw [HG.out, hd.out, go_nil]) HK.out (HB.out.mono (by omega)) HW.out
end Go.Proofs.YtnkfibahkmmnpaaGreat
