/-
  The walk of past.
-/
import Derived.Test.YtdbfcclmmpcijaaVrH
namespace Go.Proofs.Ytdbfcclmmpcijaa
open Go.RowKit

theorem Li.lowb {w0 w wd w2 : World} {b : Nat} {c : Cd} {s : Ls} {S : St} {wv : Nat → Value} {o x y z : Int} (h : Li w0 w wd b c s S wv o x y z) (hlt : b ≤ w.heap.size) (hb : Below b wd w2) : Below b w w2 := (h.low.mono hlt).trans hb
/-- Likewise, behind a store into the look. -/
structure Lj (w0 w wd : World) (b : Nat) (c : Cd) (s : Ls) (S : St) (wv : Nat → Value) (o x y z : Int) : Prop where
  lk : Lk w0 wd b c s S wv
  low : Below b w wd
  i : wd.heap[w.heap.size]? = some (.cells #[.int .i64 o, .int .i64 x, .int .i64 y, .int .i64 z] 35 (0, 0))
theorem Lj.i1 {w0 w wd : World} {b : Nat} {c : Cd} {s : Ls} {S : St} {wv : Nat → Value} {o x y z : Int} (h : Lj w0 w wd b c s S wv o x y z) : wd.cell? ⟨w.heap.size, 1, none⟩ = some (.int .i64 x) := cell_block h.i 1 _ rfl
theorem Lj.drew {w0 w wd : World} {b : Nat} {c : Cd} {s : Ls} {S : St} {wv : Nat → Value} {o x y z : Int} (h : Lj w0 w wd b c s S wv o x y z) : Lj w0 w wd.drew b c s S wv o x y z := ⟨h.lk.drewN 1, below_drewN h.low 1, h.i⟩
theorem Li.add {w0 w wd : World} {b : Nat} {c : Cd} {s : Ls} {S : St} {wv : Nat → Value} {o x y z : Int} (h : Li w0 w wd b c s S wv o x y z) (hlt : b < w.heap.size) (k : Nat) (hk : k < 16) :
    Lj w0 w (wd.setCell ⟨b, 10 + k * 7 + 6, none⟩ (.int .i64 ((S.regs k).weight + 1))).drew b c s (setR S k (addB (S.regs k))) wv o x y z :=
  Lj.drew ⟨h.lk.add k hk rfl, (h.low.mono (Nat.le_of_lt hlt)).setCell (p := ⟨b, 10 + k * 7 + 6, none⟩) (Nat.le_refl b) _, by rw [Below.heap_setCell _ _ _ _ (show w.heap.size ≠ b by omega)]; exact h.i⟩
theorem lk_fields (S : St) (p t : Int) : rgAgg (loadB S p t) = #[.bool (loadB S p t).wr, .int .i64 (loadB S p t).kind, .int .i64 (loadB S p t).plane, .int .i64 (loadB S p t).step, .bool (loadB S p t).met, .slice none 0 0, .int .i64 (loadB S p t).weight] := rfl
theorem load_ways (S : St) (p t : Int) : (loadB S p t).ways = [] := by unfold loadB; split <;> rfl

set_option maxRecDepth 10000 in
set_option maxHeartbeats 2000000 in
theorem past1_calls {w0 w : World} {b : Nat} {c : Cd} {s : Ls} {S : St} {wv : Nat → Value} (h : Lk w0 w b c s S wv) (o : Int) (x y z : Nat) (hm : Nm o x y) (hbd : Bd S 1000) (ho : o = 1) :
    Calls Try.prog 39 #[.pointer (some ⟨b, 0, none⟩), .agg #[.int .i64 o, .int .i64 x, .int .i64 y, .int .i64 z]] w fun e w' => e = .returned (.tuple #[]) ∧ (∃ wv', Lk w0 w' b c s (pastP S (o, x, y, z)) wv') ∧ Below b w w' := by
  have hlt := h.lt
  have HL : Hid (Li w0 w (w.alloc (.cells #[.int .i64 o, .int .i64 (x : Int), .int .i64 (y : Int), .int .i64 (z : Int)] 35)) b c s S wv o x y z) := Li.start h o x y z
  have HM : Hid (Nm o x y) := hm
  have HB : Hid (Bd S 1000) := hbd
  clear h hm hbd
  have e1 : (o == 1) = true := by simp [ho]
  have HE : Hid (pastP S (o, (x : Int), (y : Int), (z : Int)) = writeP S x rg0) := by show _ = _; simp [pastP, ho]
  have hx := HM.out.a (by omega)
  clear ho
  go_enter Try.func39, Try.ntmps39
  go_wp2_with fail
  refine (write_calls HL.out.lk x hx false 0 0 0 false 0).mono ?_
  rintro e w2 ⟨rfl, hl, hb⟩
  go_wp2
  go_end0
  rw [HE.out]
  exact ⟨rfl, hl, HL.out.lowb (Nat.le_of_lt hlt) hb⟩

set_option maxRecDepth 10000 in
set_option maxHeartbeats 2000000 in
theorem past2_calls {w0 w : World} {b : Nat} {c : Cd} {s : Ls} {S : St} {wv : Nat → Value} (h : Lk w0 w b c s S wv) (o : Int) (x y z : Nat) (hm : Nm o x y) (hbd : Bd S 1000) (ho : o = 2) :
    Calls Try.prog 39 #[.pointer (some ⟨b, 0, none⟩), .agg #[.int .i64 o, .int .i64 x, .int .i64 y, .int .i64 z]] w fun e w' => e = .returned (.tuple #[]) ∧ (∃ wv', Lk w0 w' b c s (pastP S (o, x, y, z)) wv') ∧ Below b w w' := by
  have hlt := h.lt
  have HL : Hid (Li w0 w (w.alloc (.cells #[.int .i64 o, .int .i64 (x : Int), .int .i64 (y : Int), .int .i64 (z : Int)] 35)) b c s S wv o x y z) := Li.start h o x y z
  have HM : Hid (Nm o x y) := hm
  have HB : Hid (Bd S 1000) := hbd
  clear h hm hbd
  have e1 : (o == 1) = false := by simp [ho]
  have e2 : (o == 2) = true := by simp [ho]
  have HE : Hid (pastP S (o, (x : Int), (y : Int), (z : Int)) = writeP S x ⟨false, 1, 0, 0, false, [], 1⟩) := by show _ = _; simp [pastP, ho]
  have hx := HM.out.a (by omega)
  clear ho
  go_enter Try.func39, Try.ntmps39
  go_wp2_with fail
  refine (write_calls HL.out.lk x hx false 1 0 0 false 1).mono ?_
  rintro e w2 ⟨rfl, hl, hb⟩
  go_wp2
  go_end0
  rw [HE.out]
  exact ⟨rfl, hl, HL.out.lowb (Nat.le_of_lt hlt) hb⟩

set_option maxRecDepth 10000 in
set_option maxHeartbeats 2000000 in
theorem past3_calls {w0 w : World} {b : Nat} {c : Cd} {s : Ls} {S : St} {wv : Nat → Value} (h : Lk w0 w b c s S wv) (o : Int) (x y z : Nat) (hm : Nm o x y) (hbd : Bd S 1000) (ho : o = 3) :
    Calls Try.prog 39 #[.pointer (some ⟨b, 0, none⟩), .agg #[.int .i64 o, .int .i64 x, .int .i64 y, .int .i64 z]] w fun e w' => e = .returned (.tuple #[]) ∧ (∃ wv', Lk w0 w' b c s (pastP S (o, x, y, z)) wv') ∧ Below b w w' := by
  have hlt := h.lt
  have HL : Hid (Li w0 w (w.alloc (.cells #[.int .i64 o, .int .i64 (x : Int), .int .i64 (y : Int), .int .i64 (z : Int)] 35)) b c s S wv o x y z) := Li.start h o x y z
  have HM : Hid (Nm o x y) := hm
  have HB : Hid (Bd S 1000) := hbd
  clear h hm hbd
  have e1 : (o == 1) = false := by simp [ho]
  have e2 : (o == 2) = false := by simp [ho]
  have e3 : (o == 3) = true := by simp [ho]
  have HE : Hid (pastP S (o, (x : Int), (y : Int), (z : Int)) = writeP S x (loadB S (y : Int) (z : Int))) := by show _ = _; simp [pastP, ho]
  have hx := HM.out.a (by omega)
  have hy := HM.out.b3 ho
  clear ho
  go_enter Try.func39, Try.ntmps39
  go_upto_region 7 with (fail)
  generalize w.alloc (.cells #[.int .i64 o, .int .i64 (x : Int), .int .i64 (y : Int), .int .i64 (z : Int)] 35) = wd at *
  have HD : Hid (Li w0 w wd.drew b c s S wv o x y z) := HL.out.drew
  have HS : Hid (wd.drew.cell? ⟨w.heap.size, 1, none⟩ = some (.int .i64 (x : Int)) ∧ wd.drew.cell? ⟨w.heap.size, 2, none⟩ = some (.int .i64 (y : Int)) ∧ wd.drew.cell? ⟨w.heap.size, 3, none⟩ = some (.int .i64 (z : Int))) := ⟨HD.out.i1, HD.out.i2, HD.out.i3⟩
  refine wp_region_Y (fun j => [9].contains j) (fun W : World => W.cell? ⟨w.heap.size, 1, none⟩ = some (.int .i64 (x : Int)) ∧ W.cell? ⟨w.heap.size, 2, none⟩ = some (.int .i64 (y : Int)) ∧ W.cell? ⟨w.heap.size, 3, none⟩ = some (.int .i64 (z : Int))) (by kernel_rfl) ?_
  refine wpAnyY_pure (i := 0) 24 (v := .pointer (some ⟨b, 0, none⟩)) rfl rfl (by kernel_rfl) (by kernel_rfl) (by kernel_rfl) (fun _ _ _ h => h) (Or.inl ⟨by rfl, by (intro W _; go_simp)⟩) ?_
  simp only [Act.put, List.setIfInBounds_toArray, List.set_cons_succ, List.set_cons_zero]
  refine wpAnyY_pure (i := 1) 25 (v := .pointer (some ⟨w.heap.size, 1, none⟩)) rfl rfl (by kernel_rfl) (by kernel_rfl) (by kernel_rfl) (fun _ _ _ h => h) (Or.inl ⟨by rfl, by (intro W _; go_simp)⟩) ?_
  simp only [Act.put, List.setIfInBounds_toArray, List.set_cons_succ, List.set_cons_zero]
  refine wpAnyY_takeD (i := 2) 26 (v := .int .i64 (x : Int)) rfl rfl (by kernel_rfl) (by kernel_rfl) (late_of (by kernel_rfl)) (by kernel_rfl) (by kernel_rfl) (fun _ _ _ h => h) HS.out (Or.inl ⟨by rfl, by (intro W hW; obtain ⟨e1, e2, e3⟩ := hW; go_simp)⟩) ?_
  simp only [Act.put, List.setIfInBounds_toArray, List.set_cons_succ, List.set_cons_zero]
  refine wpAnyY_pure (i := 3) 27 (v := .pointer (some ⟨b, 0, none⟩)) rfl rfl (by kernel_rfl) (by kernel_rfl) (by kernel_rfl) (fun _ _ _ h => h) (Or.inl ⟨by rfl, by (intro W _; go_simp)⟩) ?_
  simp only [Act.put, List.setIfInBounds_toArray, List.set_cons_succ, List.set_cons_zero]
  refine wpAnyY_pure (i := 4) 28 (v := .pointer (some ⟨w.heap.size, 2, none⟩)) rfl rfl (by kernel_rfl) (by kernel_rfl) (by kernel_rfl) (fun _ _ _ h => h) (Or.inl ⟨by rfl, by (intro W _; go_simp)⟩) ?_
  simp only [Act.put, List.setIfInBounds_toArray, List.set_cons_succ, List.set_cons_zero]
  refine wpAnyY_takeD (i := 5) 29 (v := .int .i64 (y : Int)) rfl rfl (by kernel_rfl) (by kernel_rfl) (late_of (by kernel_rfl)) (by kernel_rfl) (by kernel_rfl) (fun _ _ _ h => h) HS.out (Or.inl ⟨by rfl, by (intro W hW; obtain ⟨e1, e2, e3⟩ := hW; go_simp)⟩) ?_
  simp only [Act.put, List.setIfInBounds_toArray, List.set_cons_succ, List.set_cons_zero]
  refine wpAnyY_pure (i := 6) 30 (v := .pointer (some ⟨w.heap.size, 3, none⟩)) rfl rfl (by kernel_rfl) (by kernel_rfl) (by kernel_rfl) (fun _ _ _ h => h) (Or.inl ⟨by rfl, by (intro W _; go_simp)⟩) ?_
  simp only [Act.put, List.setIfInBounds_toArray, List.set_cons_succ, List.set_cons_zero]
  refine wpAnyY_takeD (i := 7) 31 (v := .int .i64 (z : Int)) rfl rfl (by kernel_rfl) (by kernel_rfl) (late_of (by kernel_rfl)) (by kernel_rfl) (by kernel_rfl) (fun _ _ _ h => h) HS.out (Or.inl ⟨by rfl, by (intro W hW; obtain ⟨e1, e2, e3⟩ := hW; go_simp)⟩) ?_
  simp only [Act.put, List.setIfInBounds_toArray, List.set_cons_succ, List.set_cons_zero]
  refine wpAnyY_one (i := 8) rfl (by kernel_rfl) (fun Kc hKc => ?_)
  refine step_fnD 32 rfl (by rfl) 51 _ _ rfl Try.f51 Try.func51 (by kernel_rfl) (by kernel_rfl) #[.pointer (some ⟨b, 0, none⟩), .int .i64 (y : Int), .int .i64 (z : Int)] (by simp [Act.eval]) (loaded_calls HD.out.lk y hy (z : Int)) ?_
  rintro e wb ⟨rfl, hb⟩
  refine ⟨_, rfl, hKc.out _ _ (fun _ h => ⟨cell_bl hb h.1, cell_bl hb h.2.1, cell_bl hb h.2.2⟩) ?_⟩
  clear hKc Kc
  simp only [Act.put, List.setIfInBounds_toArray, List.set_cons_succ, List.set_cons_zero]
  have HF : Hid (Li w0 w wb b c s S wv o x y z) := HD.out.next hb
  clear hb HS
  refine wpAnyY_one (i := 9) rfl (by kernel_rfl) (fun Kc hKc => ?_)
  refine step_fnD 33 rfl (by rfl) 50 _ _ rfl Try.f50 Try.func50 (by kernel_rfl) (by kernel_rfl) #[.pointer (some ⟨b, 0, none⟩), .int .i64 (x : Int), .agg (rgAgg (loadB S (y : Int) (z : Int)))] (by simp [Act.eval]) (write_calls HF.out.lk x hx (loadB S (y : Int) (z : Int)).wr (loadB S (y : Int) (z : Int)).kind (loadB S (y : Int) (z : Int)).plane (loadB S (y : Int) (z : Int)).step (loadB S (y : Int) (z : Int)).met (loadB S (y : Int) (z : Int)).weight) ?_
  rintro e wc ⟨rfl, hl, hb⟩
  refine ⟨_, rfl, hKc.out _ _ (fun h => absurd h (by decide)) ?_⟩
  clear hKc Kc
  simp only [Act.put, List.setIfInBounds_toArray, List.set_cons_succ, List.set_cons_zero]
  refine wpAnyY_done (by kernel_rfl) ?_ _
  go_wp2
  go_end0
  rw [HE.out]
  have hw : loadB S (y : Int) (z : Int) = ⟨(loadB S (y : Int) (z : Int)).wr, (loadB S (y : Int) (z : Int)).kind, (loadB S (y : Int) (z : Int)).plane, (loadB S (y : Int) (z : Int)).step, (loadB S (y : Int) (z : Int)).met, [], (loadB S (y : Int) (z : Int)).weight⟩ := by
    rw [← load_ways S (y : Int) (z : Int)]
  rw [hw]
  exact ⟨rfl, hl, HF.out.lowb (Nat.le_of_lt hlt) hb⟩

set_option maxRecDepth 10000 in
set_option maxHeartbeats 2000000 in
theorem past4_calls {w0 w : World} {b : Nat} {c : Cd} {s : Ls} {S : St} {wv : Nat → Value} (h : Lk w0 w b c s S wv) (o : Int) (x y z : Nat) (hm : Nm o x y) (hbd : Bd S 1000) (ho : o = 4) :
    Calls Try.prog 39 #[.pointer (some ⟨b, 0, none⟩), .agg #[.int .i64 o, .int .i64 x, .int .i64 y, .int .i64 z]] w fun e w' => e = .returned (.tuple #[]) ∧ (∃ wv', Lk w0 w' b c s (pastP S (o, x, y, z)) wv') ∧ Below b w w' := by
  have hlt := h.lt
  have HL : Hid (Li w0 w (w.alloc (.cells #[.int .i64 o, .int .i64 (x : Int), .int .i64 (y : Int), .int .i64 (z : Int)] 35)) b c s S wv o x y z) := Li.start h o x y z
  have HM : Hid (Nm o x y) := hm
  have HB : Hid (Bd S 1000) := hbd
  clear h hm hbd
  have e1 : (o == 1) = false := by simp [ho]
  have e2 : (o == 2) = false := by simp [ho]
  have e3 : (o == 3) = false := by simp [ho]
  have e4 : (o == 4) = true := by simp [ho]
  have HE : Hid (pastP S (o, (x : Int), (y : Int), (z : Int)) = weighP (setR S x (addB (S.regs x))) ((S.regs x).weight + 1)) := by show _ = _; simp [pastP, ho]
  have hx := HM.out.a (by omega)
  have hx' : (x : Int) < 16 := by omega
  have hg := HB.out.reg x
  obtain ⟨hg0, hg1⟩ := hg
  clear ho
  go_enter Try.func39, Try.ntmps39
  go_upto_region 10 with (fail)
  generalize w.alloc (.cells #[.int .i64 o, .int .i64 (x : Int), .int .i64 (y : Int), .int .i64 (z : Int)] 35) = wd at *
  have f1 := HL.out.i1
  have f6 := HL.out.lk.r6 hx
  have fz := HL.out.lk.fz (10 + x * 7 + 6)
  have hne : w.heap.size ≠ b := by omega
  have hne2 : b ≠ w.heap.size := by omega
  go_region
  have HA : Hid (Lj w0 w (wd.setCell ⟨b, 10 + x * 7 + 6, none⟩ (.int .i64 ((S.regs x).weight + 1))).drew b c s (setR S x (addB (S.regs x))) wv o x y z) := HL.out.add hlt x hx
  clear f1 f6 fz hne hne2
  generalize (wd.setCell ⟨b, 10 + x * 7 + 6, none⟩ (.int .i64 ((S.regs x).weight + 1))).drew = we at *
  go_upto_region 11 with (fail)
  have HD : Hid (Lj w0 w we.drew b c s (setR S x (addB (S.regs x))) wv o x y z) := HA.out.drew
  have HR6 := HD.out.lk.r6 hx
  rw [regs_set] at HR6
  have HS : Hid (we.drew.cell? ⟨w.heap.size, 1, none⟩ = some (.int .i64 (x : Int)) ∧ we.drew.cell? ⟨b, 10 + x * 7 + 6, none⟩ = some (.int .i64 ((S.regs x).weight + 1))) := ⟨HD.out.i1, HR6⟩
  clear HR6
  refine wp_region_Y (fun j => [9].contains j) (fun W : World => W.cell? ⟨w.heap.size, 1, none⟩ = some (.int .i64 (x : Int)) ∧ W.cell? ⟨b, 10 + x * 7 + 6, none⟩ = some (.int .i64 ((S.regs x).weight + 1))) (by kernel_rfl) ?_
  refine wpAnyY_pure (i := 0) 50 (v := .pointer (some ⟨b, 0, none⟩)) rfl rfl (by kernel_rfl) (by kernel_rfl) (by kernel_rfl) (fun _ _ _ h => h) (Or.inl ⟨by rfl, by (intro W _; go_simp)⟩) ?_
  simp only [Act.put, List.setIfInBounds_toArray, List.set_cons_succ, List.set_cons_zero]
  refine wpAnyY_pure (i := 1) 51 (v := .pointer (some ⟨b, 0, none⟩)) rfl rfl (by kernel_rfl) (by kernel_rfl) (by kernel_rfl) (fun _ _ _ h => h) (Or.inl ⟨by rfl, by (intro W _; go_simp)⟩) ?_
  simp only [Act.put, List.setIfInBounds_toArray, List.set_cons_succ, List.set_cons_zero]
  refine wpAnyY_pure (i := 2) 52 (v := .pointer (some ⟨w.heap.size, 1, none⟩)) rfl rfl (by kernel_rfl) (by kernel_rfl) (by kernel_rfl) (fun _ _ _ h => h) (Or.inl ⟨by rfl, by (intro W _; go_simp)⟩) ?_
  simp only [Act.put, List.setIfInBounds_toArray, List.set_cons_succ, List.set_cons_zero]
  refine wpAnyY_takeD (i := 3) 53 (v := .int .i64 (x : Int)) rfl rfl (by kernel_rfl) (by kernel_rfl) (late_of (by kernel_rfl)) (by kernel_rfl) (by kernel_rfl) (fun _ _ _ h => h) HS.out (Or.inl ⟨by rfl, by (intro W hW; obtain ⟨e1, e6⟩ := hW; go_simp)⟩) ?_
  simp only [Act.put, List.setIfInBounds_toArray, List.set_cons_succ, List.set_cons_zero]
  refine wpAnyY_pure (i := 4) 54 (v := .pointer (some ⟨b, 0, none⟩)) rfl rfl (by kernel_rfl) (by kernel_rfl) (by kernel_rfl) (fun _ _ _ h => h) (Or.inl ⟨by rfl, by (intro W _; go_simp)⟩) ?_
  simp only [Act.put, List.setIfInBounds_toArray, List.set_cons_succ, List.set_cons_zero]
  refine wpAnyY_pure (i := 5) 55 (v := .pointer (some ⟨b, 10, none⟩)) rfl rfl (by kernel_rfl) (by kernel_rfl) (by kernel_rfl) (fun _ _ _ h => h) (Or.inl ⟨by rfl, by (intro W _; go_simp)⟩) ?_
  simp only [Act.put, List.setIfInBounds_toArray, List.set_cons_succ, List.set_cons_zero]
  refine wpAnyY_pure (i := 6) 56 (v := .pointer (some ⟨b, 10 + x * 7, none⟩)) rfl rfl (by kernel_rfl) (by kernel_rfl) (by kernel_rfl) (fun _ _ _ h => h) (Or.inl ⟨by rfl, by (intro W _; go_simp)⟩) ?_
  simp only [Act.put, List.setIfInBounds_toArray, List.set_cons_succ, List.set_cons_zero]
  refine wpAnyY_pure (i := 7) 57 (v := .pointer (some ⟨b, 10 + x * 7 + 6, none⟩)) rfl rfl (by kernel_rfl) (by kernel_rfl) (by kernel_rfl) (fun _ _ _ h => h) (Or.inl ⟨by rfl, by (intro W _; go_simp)⟩) ?_
  simp only [Act.put, List.setIfInBounds_toArray, List.set_cons_succ, List.set_cons_zero]
  refine wpAnyY_takeD (i := 8) 58 (v := .int .i64 ((S.regs x).weight + 1)) rfl rfl (by kernel_rfl) (by kernel_rfl) (late_of (by kernel_rfl)) (by kernel_rfl) (by kernel_rfl) (fun _ _ _ h => h) HS.out (Or.inl ⟨by rfl, by (intro W hW; obtain ⟨e1, e6⟩ := hW; go_simp)⟩) ?_
  simp only [Act.put, List.setIfInBounds_toArray, List.set_cons_succ, List.set_cons_zero]
  refine wpAnyY_one (i := 9) rfl (by kernel_rfl) (fun Kc hKc => ?_)
  refine step_fnD 59 rfl (by rfl) 52 _ _ rfl Try.f52 Try.func52 (by kernel_rfl) (by kernel_rfl) #[.pointer (some ⟨b, 0, none⟩), .int .i64 ((S.regs x).weight + 1)] (by simp [Act.eval]) (weigh_calls HD.out.lk ((S.regs x).weight + 1)) ?_
  rintro e wc ⟨rfl, hl, hb⟩
  refine ⟨_, rfl, hKc.out _ _ (fun h => absurd h (by decide)) ?_⟩
  clear hKc Kc
  simp only [Act.put, List.setIfInBounds_toArray, List.set_cons_succ, List.set_cons_zero]
  refine wpAnyY_done (by kernel_rfl) ?_ _
  go_wp2
  go_end0
  rw [HE.out]
  exact ⟨rfl, ⟨_, hl⟩, HD.out.low.trans hb⟩

set_option maxRecDepth 10000 in
set_option maxHeartbeats 2000000 in
theorem past5_calls {w0 w : World} {b : Nat} {c : Cd} {s : Ls} {S : St} {wv : Nat → Value} (h : Lk w0 w b c s S wv) (o : Int) (x y z : Nat) (hm : Nm o x y) (hbd : Bd S 1000) (ho : o = 5) :
    Calls Try.prog 39 #[.pointer (some ⟨b, 0, none⟩), .agg #[.int .i64 o, .int .i64 x, .int .i64 y, .int .i64 z]] w fun e w' => e = .returned (.tuple #[]) ∧ (∃ wv', Lk w0 w' b c s (pastP S (o, x, y, z)) wv') ∧ Below b w w' := by
  have hlt := h.lt
  have HL : Hid (Li w0 w (w.alloc (.cells #[.int .i64 o, .int .i64 (x : Int), .int .i64 (y : Int), .int .i64 (z : Int)] 35)) b c s S wv o x y z) := Li.start h o x y z
  have HM : Hid (Nm o x y) := hm
  have HB : Hid (Bd S 1000) := hbd
  clear h hm hbd
  have e1 : (o == 1) = false := by simp [ho]
  have e2 : (o == 2) = false := by simp [ho]
  have e3 : (o == 3) = false := by simp [ho]
  have e4 : (o == 4) = false := by simp [ho]
  have e5 : (o == 5) = true := by simp [ho]
  have HE : Hid (pastP S (o, (x : Int), (y : Int), (z : Int)) = weighP (setR S x (addB (S.regs x))) ((S.regs x).weight + 1)) := by show _ = _; simp [pastP, ho]
  have hx := HM.out.a (by omega)
  have hx' : (x : Int) < 16 := by omega
  have hg := HB.out.reg x
  obtain ⟨hg0, hg1⟩ := hg
  clear ho
  go_enter Try.func39, Try.ntmps39
  go_upto_region 10 with (fail)
  generalize w.alloc (.cells #[.int .i64 o, .int .i64 (x : Int), .int .i64 (y : Int), .int .i64 (z : Int)] 35) = wd at *
  have f1 := HL.out.i1
  have f6 := HL.out.lk.r6 hx
  have fz := HL.out.lk.fz (10 + x * 7 + 6)
  have hne : w.heap.size ≠ b := by omega
  have hne2 : b ≠ w.heap.size := by omega
  go_region
  have HA : Hid (Lj w0 w (wd.setCell ⟨b, 10 + x * 7 + 6, none⟩ (.int .i64 ((S.regs x).weight + 1))).drew b c s (setR S x (addB (S.regs x))) wv o x y z) := HL.out.add hlt x hx
  clear f1 f6 fz hne hne2
  generalize (wd.setCell ⟨b, 10 + x * 7 + 6, none⟩ (.int .i64 ((S.regs x).weight + 1))).drew = we at *
  go_upto_region 11 with (fail)
  have HD : Hid (Lj w0 w we.drew b c s (setR S x (addB (S.regs x))) wv o x y z) := HA.out.drew
  have HR6 := HD.out.lk.r6 hx
  rw [regs_set] at HR6
  have HS : Hid (we.drew.cell? ⟨w.heap.size, 1, none⟩ = some (.int .i64 (x : Int)) ∧ we.drew.cell? ⟨b, 10 + x * 7 + 6, none⟩ = some (.int .i64 ((S.regs x).weight + 1))) := ⟨HD.out.i1, HR6⟩
  clear HR6
  refine wp_region_Y (fun j => [9].contains j) (fun W : World => W.cell? ⟨w.heap.size, 1, none⟩ = some (.int .i64 (x : Int)) ∧ W.cell? ⟨b, 10 + x * 7 + 6, none⟩ = some (.int .i64 ((S.regs x).weight + 1))) (by kernel_rfl) ?_
  refine wpAnyY_pure (i := 0) 50 (v := .pointer (some ⟨b, 0, none⟩)) rfl rfl (by kernel_rfl) (by kernel_rfl) (by kernel_rfl) (fun _ _ _ h => h) (Or.inl ⟨by rfl, by (intro W _; go_simp)⟩) ?_
  simp only [Act.put, List.setIfInBounds_toArray, List.set_cons_succ, List.set_cons_zero]
  refine wpAnyY_pure (i := 1) 51 (v := .pointer (some ⟨b, 0, none⟩)) rfl rfl (by kernel_rfl) (by kernel_rfl) (by kernel_rfl) (fun _ _ _ h => h) (Or.inl ⟨by rfl, by (intro W _; go_simp)⟩) ?_
  simp only [Act.put, List.setIfInBounds_toArray, List.set_cons_succ, List.set_cons_zero]
  refine wpAnyY_pure (i := 2) 52 (v := .pointer (some ⟨w.heap.size, 1, none⟩)) rfl rfl (by kernel_rfl) (by kernel_rfl) (by kernel_rfl) (fun _ _ _ h => h) (Or.inl ⟨by rfl, by (intro W _; go_simp)⟩) ?_
  simp only [Act.put, List.setIfInBounds_toArray, List.set_cons_succ, List.set_cons_zero]
  refine wpAnyY_takeD (i := 3) 53 (v := .int .i64 (x : Int)) rfl rfl (by kernel_rfl) (by kernel_rfl) (late_of (by kernel_rfl)) (by kernel_rfl) (by kernel_rfl) (fun _ _ _ h => h) HS.out (Or.inl ⟨by rfl, by (intro W hW; obtain ⟨e1, e6⟩ := hW; go_simp)⟩) ?_
  simp only [Act.put, List.setIfInBounds_toArray, List.set_cons_succ, List.set_cons_zero]
  refine wpAnyY_pure (i := 4) 54 (v := .pointer (some ⟨b, 0, none⟩)) rfl rfl (by kernel_rfl) (by kernel_rfl) (by kernel_rfl) (fun _ _ _ h => h) (Or.inl ⟨by rfl, by (intro W _; go_simp)⟩) ?_
  simp only [Act.put, List.setIfInBounds_toArray, List.set_cons_succ, List.set_cons_zero]
  refine wpAnyY_pure (i := 5) 55 (v := .pointer (some ⟨b, 10, none⟩)) rfl rfl (by kernel_rfl) (by kernel_rfl) (by kernel_rfl) (fun _ _ _ h => h) (Or.inl ⟨by rfl, by (intro W _; go_simp)⟩) ?_
  simp only [Act.put, List.setIfInBounds_toArray, List.set_cons_succ, List.set_cons_zero]
  refine wpAnyY_pure (i := 6) 56 (v := .pointer (some ⟨b, 10 + x * 7, none⟩)) rfl rfl (by kernel_rfl) (by kernel_rfl) (by kernel_rfl) (fun _ _ _ h => h) (Or.inl ⟨by rfl, by (intro W _; go_simp)⟩) ?_
  simp only [Act.put, List.setIfInBounds_toArray, List.set_cons_succ, List.set_cons_zero]
  refine wpAnyY_pure (i := 7) 57 (v := .pointer (some ⟨b, 10 + x * 7 + 6, none⟩)) rfl rfl (by kernel_rfl) (by kernel_rfl) (by kernel_rfl) (fun _ _ _ h => h) (Or.inl ⟨by rfl, by (intro W _; go_simp)⟩) ?_
  simp only [Act.put, List.setIfInBounds_toArray, List.set_cons_succ, List.set_cons_zero]
  refine wpAnyY_takeD (i := 8) 58 (v := .int .i64 ((S.regs x).weight + 1)) rfl rfl (by kernel_rfl) (by kernel_rfl) (late_of (by kernel_rfl)) (by kernel_rfl) (by kernel_rfl) (fun _ _ _ h => h) HS.out (Or.inl ⟨by rfl, by (intro W hW; obtain ⟨e1, e6⟩ := hW; go_simp)⟩) ?_
  simp only [Act.put, List.setIfInBounds_toArray, List.set_cons_succ, List.set_cons_zero]
  refine wpAnyY_one (i := 9) rfl (by kernel_rfl) (fun Kc hKc => ?_)
  refine step_fnD 59 rfl (by rfl) 52 _ _ rfl Try.f52 Try.func52 (by kernel_rfl) (by kernel_rfl) #[.pointer (some ⟨b, 0, none⟩), .int .i64 ((S.regs x).weight + 1)] (by simp [Act.eval]) (weigh_calls HD.out.lk ((S.regs x).weight + 1)) ?_
  rintro e wc ⟨rfl, hl, hb⟩
  refine ⟨_, rfl, hKc.out _ _ (fun h => absurd h (by decide)) ?_⟩
  clear hKc Kc
  simp only [Act.put, List.setIfInBounds_toArray, List.set_cons_succ, List.set_cons_zero]
  refine wpAnyY_done (by kernel_rfl) ?_ _
  go_wp2
  go_end0
  rw [HE.out]
  exact ⟨rfl, ⟨_, hl⟩, HD.out.low.trans hb⟩

set_option maxRecDepth 10000 in
set_option maxHeartbeats 2000000 in
theorem past6_calls {w0 w : World} {b : Nat} {c : Cd} {s : Ls} {S : St} {wv : Nat → Value} (h : Lk w0 w b c s S wv) (o : Int) (x y z : Nat) (hm : Nm o x y) (hbd : Bd S 1000) (ho : o = 6) :
    Calls Try.prog 39 #[.pointer (some ⟨b, 0, none⟩), .agg #[.int .i64 o, .int .i64 x, .int .i64 y, .int .i64 z]] w fun e w' => e = .returned (.tuple #[]) ∧ (∃ wv', Lk w0 w' b c s (pastP S (o, x, y, z)) wv') ∧ Below b w w' := by
  have hlt := h.lt
  have HL : Hid (Li w0 w (w.alloc (.cells #[.int .i64 o, .int .i64 (x : Int), .int .i64 (y : Int), .int .i64 (z : Int)] 35)) b c s S wv o x y z) := Li.start h o x y z
  have HM : Hid (Nm o x y) := hm
  have HB : Hid (Bd S 1000) := hbd
  clear h hm hbd
  have e1 : (o == 1) = false := by simp [ho]
  have e2 : (o == 2) = false := by simp [ho]
  have e3 : (o == 3) = false := by simp [ho]
  have e4 : (o == 4) = false := by simp [ho]
  have e5 : (o == 5) = false := by simp [ho]
  have e6 : (o == 6) = true := by simp [ho]
  have HE : Hid (pastP S (o, (x : Int), (y : Int), (z : Int)) = setR S x (meetB (S.regs x) (S.regs y) (z : Int))) := by show _ = _; simp [pastP, ho]
  have hx := HM.out.a (by omega)
  have hx' : (x : Int) < 16 := by omega
  have hy := HM.out.b6 ho
  have hy' : (y : Int) < 16 := by omega
  clear ho
  go_enter Try.func39, Try.ntmps39
  go_upto_region 13 with (fail)
  generalize w.alloc (.cells #[.int .i64 o, .int .i64 (x : Int), .int .i64 (y : Int), .int .i64 (z : Int)] 35) = wd at *
  have HD : Hid (Li w0 w wd.drew b c s S wv o x y z) := HL.out.drew
  obtain ⟨ya, yc, _, y5, _⟩ := HD.out.lk.ways hy
  have HS : Hid (wd.drew.cell? ⟨w.heap.size, 1, none⟩ = some (.int .i64 (x : Int)) ∧ wd.drew.cell? ⟨w.heap.size, 2, none⟩ = some (.int .i64 (y : Int)) ∧ wd.drew.cell? ⟨w.heap.size, 3, none⟩ = some (.int .i64 (z : Int)) ∧ wd.drew.cell? ⟨b, 10 + y * 7, none⟩ = some (.bool (S.regs y).wr) ∧ wd.drew.cell? ⟨b, 10 + y * 7 + 1, none⟩ = some (.int .i64 (S.regs y).kind) ∧ wd.drew.cell? ⟨b, 10 + y * 7 + 2, none⟩ = some (.int .i64 (S.regs y).plane) ∧ wd.drew.cell? ⟨b, 10 + y * 7 + 3, none⟩ = some (.int .i64 (S.regs y).step) ∧ wd.drew.cell? ⟨b, 10 + y * 7 + 4, none⟩ = some (.bool (S.regs y).met) ∧ wd.drew.cell? ⟨b, 10 + y * 7 + 5, none⟩ = some (.slice ya (S.regs y).ways.length yc) ∧ wd.drew.cell? ⟨b, 10 + y * 7 + 6, none⟩ = some (.int .i64 (S.regs y).weight)) := ⟨HD.out.i1, HD.out.i2, HD.out.i3, HD.out.lk.r0 hy, HD.out.lk.r1 hy, HD.out.lk.r2 hy, HD.out.lk.r3 hy, HD.out.lk.r4 hy, y5, HD.out.lk.r6 hy⟩
  clear y5
  refine wp_region_Y (fun j => [15].contains j) (fun W : World => W.cell? ⟨w.heap.size, 1, none⟩ = some (.int .i64 (x : Int)) ∧ W.cell? ⟨w.heap.size, 2, none⟩ = some (.int .i64 (y : Int)) ∧ W.cell? ⟨w.heap.size, 3, none⟩ = some (.int .i64 (z : Int)) ∧ W.cell? ⟨b, 10 + y * 7, none⟩ = some (.bool (S.regs y).wr) ∧ W.cell? ⟨b, 10 + y * 7 + 1, none⟩ = some (.int .i64 (S.regs y).kind) ∧ W.cell? ⟨b, 10 + y * 7 + 2, none⟩ = some (.int .i64 (S.regs y).plane) ∧ W.cell? ⟨b, 10 + y * 7 + 3, none⟩ = some (.int .i64 (S.regs y).step) ∧ W.cell? ⟨b, 10 + y * 7 + 4, none⟩ = some (.bool (S.regs y).met) ∧ W.cell? ⟨b, 10 + y * 7 + 5, none⟩ = some (.slice ya (S.regs y).ways.length yc) ∧ W.cell? ⟨b, 10 + y * 7 + 6, none⟩ = some (.int .i64 (S.regs y).weight)) (by kernel_rfl) ?_
  refine wpAnyY_pure (i := 0) 62 (v := .pointer (some ⟨b, 0, none⟩)) rfl rfl (by kernel_rfl) (by kernel_rfl) (by kernel_rfl) (fun _ _ _ h => h) (Or.inl ⟨by rfl, by (intro W _; go_simp)⟩) ?_
  simp only [Act.put, List.setIfInBounds_toArray, List.set_cons_succ, List.set_cons_zero]
  refine wpAnyY_pure (i := 1) 63 (v := .pointer (some ⟨w.heap.size, 1, none⟩)) rfl rfl (by kernel_rfl) (by kernel_rfl) (by kernel_rfl) (fun _ _ _ h => h) (Or.inl ⟨by rfl, by (intro W _; go_simp)⟩) ?_
  simp only [Act.put, List.setIfInBounds_toArray, List.set_cons_succ, List.set_cons_zero]
  refine wpAnyY_takeD (i := 2) 64 (v := .int .i64 (x : Int)) rfl rfl (by kernel_rfl) (by kernel_rfl) (late_of (by kernel_rfl)) (by kernel_rfl) (by kernel_rfl) (fun _ _ _ h => h) HS.out (Or.inl ⟨by rfl, by (intro W hW; obtain ⟨i1, i2, i3, q0, q1, q2, q3, q4, q5, q6⟩ := hW; go_simp)⟩) ?_
  simp only [Act.put, List.setIfInBounds_toArray, List.set_cons_succ, List.set_cons_zero]
  refine wpAnyY_pure (i := 3) 65 (v := .pointer (some ⟨b, 0, none⟩)) rfl rfl (by kernel_rfl) (by kernel_rfl) (by kernel_rfl) (fun _ _ _ h => h) (Or.inl ⟨by rfl, by (intro W _; go_simp)⟩) ?_
  simp only [Act.put, List.setIfInBounds_toArray, List.set_cons_succ, List.set_cons_zero]
  refine wpAnyY_pure (i := 4) 66 (v := .pointer (some ⟨b, 10, none⟩)) rfl rfl (by kernel_rfl) (by kernel_rfl) (by kernel_rfl) (fun _ _ _ h => h) (Or.inl ⟨by rfl, by (intro W _; go_simp)⟩) ?_
  simp only [Act.put, List.setIfInBounds_toArray, List.set_cons_succ, List.set_cons_zero]
  refine wpAnyY_pure (i := 5) 67 (v := .pointer (some ⟨b, 10 + x * 7, none⟩)) rfl rfl (by kernel_rfl) (by kernel_rfl) (by kernel_rfl) (fun _ _ _ h => h) (Or.inl ⟨by rfl, by (intro W _; go_simp)⟩) ?_
  simp only [Act.put, List.setIfInBounds_toArray, List.set_cons_succ, List.set_cons_zero]
  refine wpAnyY_pure (i := 6) 68 (v := .pointer (some ⟨b, 0, none⟩)) rfl rfl (by kernel_rfl) (by kernel_rfl) (by kernel_rfl) (fun _ _ _ h => h) (Or.inl ⟨by rfl, by (intro W _; go_simp)⟩) ?_
  simp only [Act.put, List.setIfInBounds_toArray, List.set_cons_succ, List.set_cons_zero]
  refine wpAnyY_pure (i := 7) 69 (v := .pointer (some ⟨w.heap.size, 2, none⟩)) rfl rfl (by kernel_rfl) (by kernel_rfl) (by kernel_rfl) (fun _ _ _ h => h) (Or.inl ⟨by rfl, by (intro W _; go_simp)⟩) ?_
  simp only [Act.put, List.setIfInBounds_toArray, List.set_cons_succ, List.set_cons_zero]
  refine wpAnyY_takeD (i := 8) 70 (v := .int .i64 (y : Int)) rfl rfl (by kernel_rfl) (by kernel_rfl) (late_of (by kernel_rfl)) (by kernel_rfl) (by kernel_rfl) (fun _ _ _ h => h) HS.out (Or.inl ⟨by rfl, by (intro W hW; obtain ⟨i1, i2, i3, q0, q1, q2, q3, q4, q5, q6⟩ := hW; go_simp)⟩) ?_
  simp only [Act.put, List.setIfInBounds_toArray, List.set_cons_succ, List.set_cons_zero]
  refine wpAnyY_pure (i := 9) 71 (v := .pointer (some ⟨b, 0, none⟩)) rfl rfl (by kernel_rfl) (by kernel_rfl) (by kernel_rfl) (fun _ _ _ h => h) (Or.inl ⟨by rfl, by (intro W _; go_simp)⟩) ?_
  simp only [Act.put, List.setIfInBounds_toArray, List.set_cons_succ, List.set_cons_zero]
  refine wpAnyY_pure (i := 10) 72 (v := .pointer (some ⟨b, 10, none⟩)) rfl rfl (by kernel_rfl) (by kernel_rfl) (by kernel_rfl) (fun _ _ _ h => h) (Or.inl ⟨by rfl, by (intro W _; go_simp)⟩) ?_
  simp only [Act.put, List.setIfInBounds_toArray, List.set_cons_succ, List.set_cons_zero]
  refine wpAnyY_pure (i := 11) 73 (v := .pointer (some ⟨b, 10 + y * 7, none⟩)) rfl rfl (by kernel_rfl) (by kernel_rfl) (by kernel_rfl) (fun _ _ _ h => h) (Or.inl ⟨by rfl, by (intro W _; go_simp)⟩) ?_
  simp only [Act.put, List.setIfInBounds_toArray, List.set_cons_succ, List.set_cons_zero]
  refine wpAnyY_takeD (i := 12) 74 (v := .agg #[.bool (S.regs y).wr, .int .i64 (S.regs y).kind, .int .i64 (S.regs y).plane, .int .i64 (S.regs y).step, .bool (S.regs y).met, .slice ya (S.regs y).ways.length yc, .int .i64 (S.regs y).weight]) rfl rfl (by kernel_rfl) (by kernel_rfl) (late_of (by kernel_rfl)) (by kernel_rfl) (by kernel_rfl) (fun _ _ _ h => h) HS.out (Or.inl ⟨by rfl, by (intro W hW; obtain ⟨i1, i2, i3, q0, q1, q2, q3, q4, q5, q6⟩ := hW; go_simp)⟩) ?_
  simp only [Act.put, List.setIfInBounds_toArray, List.set_cons_succ, List.set_cons_zero]
  refine wpAnyY_pure (i := 13) 75 (v := .pointer (some ⟨w.heap.size, 3, none⟩)) rfl rfl (by kernel_rfl) (by kernel_rfl) (by kernel_rfl) (fun _ _ _ h => h) (Or.inl ⟨by rfl, by (intro W _; go_simp)⟩) ?_
  simp only [Act.put, List.setIfInBounds_toArray, List.set_cons_succ, List.set_cons_zero]
  refine wpAnyY_takeD (i := 14) 76 (v := .int .i64 (z : Int)) rfl rfl (by kernel_rfl) (by kernel_rfl) (late_of (by kernel_rfl)) (by kernel_rfl) (by kernel_rfl) (fun _ _ _ h => h) HS.out (Or.inl ⟨by rfl, by (intro W hW; obtain ⟨i1, i2, i3, q0, q1, q2, q3, q4, q5, q6⟩ := hW; go_simp)⟩) ?_
  simp only [Act.put, List.setIfInBounds_toArray, List.set_cons_succ, List.set_cons_zero]
  refine wpAnyY_one (i := 15) rfl (by kernel_rfl) (fun Kc hKc => ?_)
  refine step_fnD 77 rfl (by rfl) 53 _ _ rfl Try.f53 Try.func53 (by kernel_rfl) (by kernel_rfl) #[.pointer (some ⟨b, 10 + x * 7, none⟩), .agg #[.bool (S.regs y).wr, .int .i64 (S.regs y).kind, .int .i64 (S.regs y).plane, .int .i64 (S.regs y).step, .bool (S.regs y).met, .slice ya (S.regs y).ways.length yc, .int .i64 (S.regs y).weight], .int .i64 (z : Int)] (by simp [Act.eval]) (meet_calls HD.out.lk hx (HB.out.ways x) (S.regs y) ya _ yc (z : Int)) ?_
  rintro e wc ⟨rfl, hl, hb⟩
  refine ⟨_, rfl, hKc.out _ _ (fun h => absurd h (by decide)) ?_⟩
  clear hKc Kc
  simp only [Act.put, List.setIfInBounds_toArray, List.set_cons_succ, List.set_cons_zero]
  refine wpAnyY_done (by kernel_rfl) ?_ _
  go_wp2
  go_end0
  rw [HE.out]
  exact ⟨rfl, hl, HD.out.lowb (Nat.le_of_lt hlt) hb⟩

set_option maxRecDepth 10000 in
set_option maxHeartbeats 2000000 in
theorem past7_calls {w0 w : World} {b : Nat} {c : Cd} {s : Ls} {S : St} {wv : Nat → Value} (h : Lk w0 w b c s S wv) (o : Int) (x y z : Nat) (hm : Nm o x y) (hbd : Bd S 1000) (ho : o = 7) :
    Calls Try.prog 39 #[.pointer (some ⟨b, 0, none⟩), .agg #[.int .i64 o, .int .i64 x, .int .i64 y, .int .i64 z]] w fun e w' => e = .returned (.tuple #[]) ∧ (∃ wv', Lk w0 w' b c s (pastP S (o, x, y, z)) wv') ∧ Below b w w' := by
  have hlt := h.lt
  have HL : Hid (Li w0 w (w.alloc (.cells #[.int .i64 o, .int .i64 (x : Int), .int .i64 (y : Int), .int .i64 (z : Int)] 35)) b c s S wv o x y z) := Li.start h o x y z
  have HM : Hid (Nm o x y) := hm
  have HB : Hid (Bd S 1000) := hbd
  clear h hm hbd
  have e1 : (o == 1) = false := by simp [ho]
  have e2 : (o == 2) = false := by simp [ho]
  have e3 : (o == 3) = false := by simp [ho]
  have e4 : (o == 4) = false := by simp [ho]
  have e5 : (o == 5) = false := by simp [ho]
  have e6 : (o == 6) = false := by simp [ho]
  have e7 : (o == 7) = true := by simp [ho]
  have HE : Hid (pastP S (o, (x : Int), (y : Int), (z : Int)) = setP S x (true, (S.regs y).weight)) := by show _ = _; simp [pastP, ho]
  obtain ⟨hx, hy⟩ := HM.out.p7 ho
  have hx' : (x : Int) < 10 := by omega
  have hy' : (y : Int) < 16 := by omega
  clear ho
  go_enter Try.func39, Try.ntmps39
  go_upto_region 15 with (fail)
  generalize w.alloc (.cells #[.int .i64 o, .int .i64 (x : Int), .int .i64 (y : Int), .int .i64 (z : Int)] 35) = wd at *
  have f1 := HL.out.i1
  have f2 := HL.out.i2
  have f6 := HL.out.lk.r6 hy
  have g0 := HL.out.lk.pl0 x hx
  have g1 := HL.out.lk.pl1 x hx
  have fz := HL.out.lk.fz
  have hne : w.heap.size ≠ b := by omega
  have hne2 : b ≠ w.heap.size := by omega
  go_region
  go_wp2
  go_end0
  rw [HE.out]
  exact ⟨rfl, ⟨_, (HL.out.lk.keep hx true (S.regs y).weight).drewN 1⟩, below_drewN (((HL.out.low.mono (Nat.le_of_lt hlt)).setCell (p := ⟨b, 122 + x * 2, none⟩) (Nat.le_refl b) _).setCell (p := ⟨b, 122 + x * 2 + 1, none⟩) (Nat.le_refl b) _) 1⟩

set_option maxRecDepth 10000 in
set_option maxHeartbeats 2000000 in
theorem past8_calls {w0 w : World} {b : Nat} {c : Cd} {s : Ls} {S : St} {wv : Nat → Value} (h : Lk w0 w b c s S wv) (o : Int) (x y z : Nat) (hm : Nm o x y) (hbd : Bd S 1000) (ho : o = 8) :
    Calls Try.prog 39 #[.pointer (some ⟨b, 0, none⟩), .agg #[.int .i64 o, .int .i64 x, .int .i64 y, .int .i64 z]] w fun e w' => e = .returned (.tuple #[]) ∧ (∃ wv', Lk w0 w' b c s (pastP S (o, x, y, z)) wv') ∧ Below b w w' := by
  have hlt := h.lt
  have HL : Hid (Li w0 w (w.alloc (.cells #[.int .i64 o, .int .i64 (x : Int), .int .i64 (y : Int), .int .i64 (z : Int)] 35)) b c s S wv o x y z) := Li.start h o x y z
  have HM : Hid (Nm o x y) := hm
  have HB : Hid (Bd S 1000) := hbd
  clear h hm hbd
  have e1 : (o == 1) = false := by simp [ho]
  have e2 : (o == 2) = false := by simp [ho]
  have e3 : (o == 3) = false := by simp [ho]
  have e4 : (o == 4) = false := by simp [ho]
  have e5 : (o == 5) = false := by simp [ho]
  have e6 : (o == 6) = false := by simp [ho]
  have e7 : (o == 7) = false := by simp [ho]
  have e8 : (o == 8) = true := by simp [ho]
  have HE : Hid (pastP S (o, (x : Int), (y : Int), (z : Int)) = weighP S ((S.pl x).2 + 1)) := by show _ = _; simp [pastP, ho]
  have hx := HM.out.p8 ho
  have hx' : (x : Int) < 10 := by omega
  obtain ⟨hg0, hg1⟩ := HB.out.pl x
  clear ho
  go_enter Try.func39, Try.ntmps39
  go_upto_region 17 with (fail)
  generalize w.alloc (.cells #[.int .i64 o, .int .i64 (x : Int), .int .i64 (y : Int), .int .i64 (z : Int)] 35) = wd at *
  have HD : Hid (Li w0 w wd.drew b c s S wv o x y z) := HL.out.drew
  have HS : Hid (wd.drew.cell? ⟨w.heap.size, 1, none⟩ = some (.int .i64 (x : Int)) ∧ wd.drew.cell? ⟨b, 122 + x * 2 + 1, none⟩ = some (.int .i64 (S.pl x).2)) := ⟨HD.out.i1, HD.out.lk.pl1 x hx⟩
  refine wp_region_Y (fun j => [10].contains j) (fun W : World => W.cell? ⟨w.heap.size, 1, none⟩ = some (.int .i64 (x : Int)) ∧ W.cell? ⟨b, 122 + x * 2 + 1, none⟩ = some (.int .i64 (S.pl x).2)) (by kernel_rfl) ?_
  refine wpAnyY_pure (i := 0) 97 (v := .pointer (some ⟨b, 0, none⟩)) rfl rfl (by kernel_rfl) (by kernel_rfl) (by kernel_rfl) (fun _ _ _ h => h) (Or.inl ⟨by rfl, by (intro W _; go_simp)⟩) ?_
  simp only [Act.put, List.setIfInBounds_toArray, List.set_cons_succ, List.set_cons_zero]
  refine wpAnyY_pure (i := 1) 98 (v := .pointer (some ⟨b, 0, none⟩)) rfl rfl (by kernel_rfl) (by kernel_rfl) (by kernel_rfl) (fun _ _ _ h => h) (Or.inl ⟨by rfl, by (intro W _; go_simp)⟩) ?_
  simp only [Act.put, List.setIfInBounds_toArray, List.set_cons_succ, List.set_cons_zero]
  refine wpAnyY_pure (i := 2) 99 (v := .pointer (some ⟨w.heap.size, 1, none⟩)) rfl rfl (by kernel_rfl) (by kernel_rfl) (by kernel_rfl) (fun _ _ _ h => h) (Or.inl ⟨by rfl, by (intro W _; go_simp)⟩) ?_
  simp only [Act.put, List.setIfInBounds_toArray, List.set_cons_succ, List.set_cons_zero]
  refine wpAnyY_takeD (i := 3) 100 (v := .int .i64 (x : Int)) rfl rfl (by kernel_rfl) (by kernel_rfl) (late_of (by kernel_rfl)) (by kernel_rfl) (by kernel_rfl) (fun _ _ _ h => h) HS.out (Or.inl ⟨by rfl, by (intro W hW; obtain ⟨i1, q6⟩ := hW; go_simp)⟩) ?_
  simp only [Act.put, List.setIfInBounds_toArray, List.set_cons_succ, List.set_cons_zero]
  refine wpAnyY_pure (i := 4) 101 (v := .pointer (some ⟨b, 0, none⟩)) rfl rfl (by kernel_rfl) (by kernel_rfl) (by kernel_rfl) (fun _ _ _ h => h) (Or.inl ⟨by rfl, by (intro W _; go_simp)⟩) ?_
  simp only [Act.put, List.setIfInBounds_toArray, List.set_cons_succ, List.set_cons_zero]
  refine wpAnyY_pure (i := 5) 102 (v := .pointer (some ⟨b, 122, none⟩)) rfl rfl (by kernel_rfl) (by kernel_rfl) (by kernel_rfl) (fun _ _ _ h => h) (Or.inl ⟨by rfl, by (intro W _; go_simp)⟩) ?_
  simp only [Act.put, List.setIfInBounds_toArray, List.set_cons_succ, List.set_cons_zero]
  refine wpAnyY_pure (i := 6) 103 (v := .pointer (some ⟨b, 122 + x * 2, none⟩)) rfl rfl (by kernel_rfl) (by kernel_rfl) (by kernel_rfl) (fun _ _ _ h => h) (Or.inl ⟨by rfl, by (intro W _; go_simp)⟩) ?_
  simp only [Act.put, List.setIfInBounds_toArray, List.set_cons_succ, List.set_cons_zero]
  refine wpAnyY_pure (i := 7) 104 (v := .pointer (some ⟨b, 122 + x * 2 + 1, none⟩)) rfl rfl (by kernel_rfl) (by kernel_rfl) (by kernel_rfl) (fun _ _ _ h => h) (Or.inl ⟨by rfl, by (intro W _; go_simp)⟩) ?_
  simp only [Act.put, List.setIfInBounds_toArray, List.set_cons_succ, List.set_cons_zero]
  refine wpAnyY_takeD (i := 8) 105 (v := .int .i64 (S.pl x).2) rfl rfl (by kernel_rfl) (by kernel_rfl) (late_of (by kernel_rfl)) (by kernel_rfl) (by kernel_rfl) (fun _ _ _ h => h) HS.out (Or.inl ⟨by rfl, by (intro W hW; obtain ⟨i1, q6⟩ := hW; go_simp)⟩) ?_
  simp only [Act.put, List.setIfInBounds_toArray, List.set_cons_succ, List.set_cons_zero]
  refine wpAnyY_pure (i := 9) 106 (v := .int .i64 ((S.pl x).2 + 1)) rfl rfl (by kernel_rfl) (by kernel_rfl) (by kernel_rfl) (fun _ _ _ h => h) (Or.inl ⟨by rfl, by (intro W _; go_simp; exact (IntWalk.i64_left _).trans (by unfold wrap64; omega))⟩) ?_
  simp only [Act.put, List.setIfInBounds_toArray, List.set_cons_succ, List.set_cons_zero]
  refine wpAnyY_one (i := 10) rfl (by kernel_rfl) (fun Kc hKc => ?_)
  refine step_fnD 107 rfl (by rfl) 52 _ _ rfl Try.f52 Try.func52 (by kernel_rfl) (by kernel_rfl) #[.pointer (some ⟨b, 0, none⟩), .int .i64 ((S.pl x).2 + 1)] (by simp [Act.eval]) (weigh_calls HD.out.lk ((S.pl x).2 + 1)) ?_
  rintro e wc ⟨rfl, hl, hb⟩
  refine ⟨_, rfl, hKc.out _ _ (fun h => absurd h (by decide)) ?_⟩
  clear hKc Kc
  simp only [Act.put, List.setIfInBounds_toArray, List.set_cons_succ, List.set_cons_zero]
  refine wpAnyY_done (by kernel_rfl) ?_ _
  go_wp2
  go_end0
  rw [HE.out]
  exact ⟨rfl, ⟨_, hl⟩, HD.out.lowb (Nat.le_of_lt hlt) hb⟩
theorem past_calls {w0 w : World} {b : Nat} {c : Cd} {s : Ls} {S : St} {wv : Nat → Value} (h : Lk w0 w b c s S wv) (o : Int) (x y z : Nat) (hm : Nm o x y) (hbd : Bd S 1000) :
    Calls Try.prog 39 #[.pointer (some ⟨b, 0, none⟩), .agg #[.int .i64 o, .int .i64 x, .int .i64 y, .int .i64 z]] w fun e w' => e = .returned (.tuple #[]) ∧ (∃ wv', Lk w0 w' b c s (pastP S (o, x, y, z)) wv') ∧ Below b w w' := by
  have h1 := hm.lo
  have h2 := hm.hi
  have : o = 1 ∨ o = 2 ∨ o = 3 ∨ o = 4 ∨ o = 5 ∨ o = 6 ∨ o = 7 ∨ o = 8 := by omega
  rcases this with e | e | e | e | e | e | e | e
  · exact past1_calls h o x y z hm hbd e
  · exact past2_calls h o x y z hm hbd e
  · exact past3_calls h o x y z hm hbd e
  · exact past4_calls h o x y z hm hbd e
  · exact past5_calls h o x y z hm hbd e
  · exact past6_calls h o x y z hm hbd e
  · exact past7_calls h o x y z hm hbd e
  · exact past8_calls h o x y z hm hbd e

end Go.Proofs.Ytdbfcclmmpcijaa
