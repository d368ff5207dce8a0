/-
  The walk of good.
-/
import Derived.Test.YtdbfcclmmpcijaaVrG
import Derived.Test.YtdbfcclmmpcijaaVrF
namespace Go.Proofs.Ytdbfcclmmpcijaa
open Go.RowKit

/-- The look, and the box of an instruction at g. -/
structure Li (w0 w wd : World) (b : Nat) (c : Cd) (s : Ls) (S : St) (wv : Nat → Value) (o x y z : Int) : Prop where
  lk : Lk w0 wd b c s S wv
  low : Below w.heap.size w wd
  size : w.heap.size < wd.heap.size
  i : wd.heap[w.heap.size]? = some (.cells #[.int .i64 o, .int .i64 x, .int .i64 y, .int .i64 z] 35 (0, 0))
section
variable {w0 w wd : World} {b : Nat} {c : Cd} {s : Ls} {S : St} {wv : Nat → Value} {o x y z : Int}
theorem Li.start (h : Lk w0 w b c s S wv) (o x y z : Int) : Li w0 w (w.alloc (.cells #[.int .i64 o, .int .i64 x, .int .i64 y, .int .i64 z] 35)) b c s S wv o x y z :=
  ⟨h.alloc _, below_new _, by simp, heap_alloc_new _ _⟩
theorem Li.drew (h : Li w0 w wd b c s S wv o x y z) : Li w0 w wd.drew b c s S wv o x y z := ⟨h.lk.drewN 1, below_drewN h.low 1, h.size, h.i⟩
theorem Li.next {w2 : World} (h : Li w0 w wd b c s S wv o x y z) (hb : Below wd.heap.size wd w2) : Li w0 w w2 b c s S wv o x y z :=
  ⟨h.lk.next hb, h.low.trans (hb.mono h.low.size), Nat.lt_of_lt_of_le h.size hb.size, by rw [hb.block _ h.size]; exact h.i⟩
theorem Li.i0 (h : Li w0 w wd b c s S wv o x y z) : wd.cell? ⟨w.heap.size, 0, none⟩ = some (.int .i64 o) := cell_block h.i 0 _ rfl
theorem Li.i1 (h : Li w0 w wd b c s S wv o x y z) : wd.cell? ⟨w.heap.size, 1, none⟩ = some (.int .i64 x) := cell_block h.i 1 _ rfl
theorem Li.i2 (h : Li w0 w wd b c s S wv o x y z) : wd.cell? ⟨w.heap.size, 2, none⟩ = some (.int .i64 y) := cell_block h.i 2 _ rfl
theorem Li.i3 (h : Li w0 w wd b c s S wv o x y z) : wd.cell? ⟨w.heap.size, 3, none⟩ = some (.int .i64 z) := cell_block h.i 3 _ rfl
end
set_option maxRecDepth 10000 in
set_option maxHeartbeats 2000000 in
theorem good_calls {w0 w : World} {b : Nat} {c : Cd} {s : Ls} {S : St} {wv : Nat → Value} (h : Lk w0 w b c s S wv) (o : Int) (x y z : Nat) (hm : Nm o x y) :
    Calls Try.prog 38 #[.pointer (some ⟨b, 0, none⟩), .agg #[.int .i64 o, .int .i64 x, .int .i64 y, .int .i64 z]] w fun e w' => e = .returned (.bool (gdB c S (o, x, y, z))) ∧ Below w.heap.size w w' := by
  have HL : Hid (Li w0 w (w.alloc (.cells #[.int .i64 o, .int .i64 x, .int .i64 y, .int .i64 z] 35)) b c s S wv o x y z) := Li.start h o x y z
  have HM : Hid (Nm o x y) := hm
  clear h hm
  by_cases h7 : o = 7
  · have e7 : (o != 7) = false := by simp [h7]
    obtain ⟨hx, hy⟩ := HM.out.p7 h7
    have hy' : (y : Int) < 16 := by omega
    by_cases hx0 : x = 0
    · have e0 : ((x : Int) == 0) = true := by simp [hx0]
      have HE : Hid (gdB c S (o, (x : Int), (y : Int), (z : Int)) = begB (S.regs y)) := by show _ = _; simp [gdB, h7, hx0]
      clear h7 hx0
      go_enter Try.func38, Try.ntmps38
      go_upto_region 5 with (fail)
      generalize w.alloc (.cells #[.int .i64 o, .int .i64 (x : Int), .int .i64 (y : Int), .int .i64 (z : Int)] 35) = wd at *
      have HD : Hid (Li w0 w wd.drew b c s S wv o x y z) := HL.out.drew
      have HS : Hid (wd.drew.cell? ⟨w.heap.size, 2, none⟩ = some (.int .i64 (y : Int))) := HD.out.i2
      refine wp_region_Y (fun j => [6, 7].contains j) (fun W : World => W.cell? ⟨w.heap.size, 2, none⟩ = some (.int .i64 (y : Int))) (by kernel_rfl) ?_
      refine wpAnyY_pure (i := 0) 27 (v := .pointer (some ⟨b, 0, none⟩)) rfl rfl (by kernel_rfl) (by kernel_rfl) (by kernel_rfl) (fun _ _ _ h => h) (Or.inl ⟨by rfl, by (intro W _; go_simp)⟩) ?_
      simp only [Act.put, List.setIfInBounds_toArray, List.set_cons_succ, List.set_cons_zero]
      refine wpAnyY_pure (i := 1) 28 (v := .pointer (some ⟨w.heap.size, 2, none⟩)) rfl rfl (by kernel_rfl) (by kernel_rfl) (by kernel_rfl) (fun _ _ _ h => h) (Or.inl ⟨by rfl, by (intro W _; go_simp)⟩) ?_
      simp only [Act.put, List.setIfInBounds_toArray, List.set_cons_succ, List.set_cons_zero]
      refine wpAnyY_takeD (i := 2) 29 (v := .int .i64 (y : Int)) rfl rfl (by kernel_rfl) (by kernel_rfl) (late_of (by kernel_rfl)) (by kernel_rfl) (by kernel_rfl) (fun _ _ _ h => h) HS.out (Or.inl ⟨by rfl, by (intro W hW; have e2 := hW; go_simp)⟩) ?_
      simp only [Act.put, List.setIfInBounds_toArray, List.set_cons_succ, List.set_cons_zero]
      refine wpAnyY_pure (i := 3) 30 (v := .pointer (some ⟨b, 0, none⟩)) rfl rfl (by kernel_rfl) (by kernel_rfl) (by kernel_rfl) (fun _ _ _ h => h) (Or.inl ⟨by rfl, by (intro W _; go_simp)⟩) ?_
      simp only [Act.put, List.setIfInBounds_toArray, List.set_cons_succ, List.set_cons_zero]
      refine wpAnyY_pure (i := 4) 31 (v := .pointer (some ⟨b, 10, none⟩)) rfl rfl (by kernel_rfl) (by kernel_rfl) (by kernel_rfl) (fun _ _ _ h => h) (Or.inl ⟨by rfl, by (intro W _; go_simp)⟩) ?_
      simp only [Act.put, List.setIfInBounds_toArray, List.set_cons_succ, List.set_cons_zero]
      refine wpAnyY_pure (i := 5) 32 (v := .pointer (some ⟨b, 10 + y * 7, none⟩)) rfl rfl (by kernel_rfl) (by kernel_rfl) (by kernel_rfl) (fun _ _ _ h => h) (Or.inl ⟨by rfl, by (intro W _; go_simp)⟩) ?_
      simp only [Act.put, List.setIfInBounds_toArray, List.set_cons_succ, List.set_cons_zero]
      refine wpAnyY_one (i := 6) rfl (by kernel_rfl) (fun Kc hKc => ?_)
      refine step_fnD 33 rfl (by rfl) 48 _ _ rfl Try.f48 Try.func48 (by kernel_rfl) (by kernel_rfl) #[.pointer (some ⟨b, 10 + y * 7, none⟩)] (by simp [Act.eval]) (begins_calls HD.out.lk hy) ?_
      rintro e wb ⟨rfl, hb⟩
      have HF : Hid (Below w.heap.size w wb) := (HD.out.next hb).low
      clear hb
      refine ⟨_, rfl, hKc.out _ _ (fun h => absurd h (by decide)) ?_⟩
      clear hKc Kc
      simp only [Act.put, List.setIfInBounds_toArray, List.set_cons_succ, List.set_cons_zero]
      refine wpAnyY_one (i := 7) rfl (by kernel_rfl) (fun Kc hKc => ?_)
      go_simp
      refine hKc.out _ _ (fun h => absurd h (by decide)) ?_
      clear hKc Kc
      refine wpAnyY_done (by kernel_rfl) ?_ _
      go_wp2
      go_ret
      exact ⟨ret_bool HE.out.symm, HF.out⟩
    · have e0 : ((x : Int) == 0) = false := by simp [hx0]
      have HE : Hid (gdB c S (o, (x : Int), (y : Int), (z : Int)) = comB (S.regs y) (x : Int) c.arrows) := by show _ = _; simp [gdB, h7, hx0]
      clear h7 hx0
      go_enter Try.func38, Try.ntmps38
      go_upto_region 1 with (fail)
      generalize w.alloc (.cells #[.int .i64 o, .int .i64 (x : Int), .int .i64 (y : Int), .int .i64 (z : Int)] 35) = wd at *
      have HD : Hid (Li w0 w wd.drew b c s S wv o x y z) := HL.out.drew
      have HS : Hid (wd.drew.cell? ⟨w.heap.size, 2, none⟩ = some (.int .i64 (y : Int)) ∧ wd.drew.cell? ⟨w.heap.size, 1, none⟩ = some (.int .i64 (x : Int)) ∧ wd.drew.cell? ⟨b, 9, none⟩ = some (.slice s.r.a s.r.n s.r.c)) := ⟨HD.out.i2, HD.out.i1, HD.out.lk.code 9 (by omega) rfl⟩
      refine wp_region_Y (fun j => [13, 14].contains j) (fun W : World => W.cell? ⟨w.heap.size, 2, none⟩ = some (.int .i64 (y : Int)) ∧ W.cell? ⟨w.heap.size, 1, none⟩ = some (.int .i64 (x : Int)) ∧ W.cell? ⟨b, 9, none⟩ = some (.slice s.r.a s.r.n s.r.c)) (by kernel_rfl) ?_
      refine wpAnyY_pure (i := 0) 5 (v := .pointer (some ⟨b, 0, none⟩)) rfl rfl (by kernel_rfl) (by kernel_rfl) (by kernel_rfl) (fun _ _ _ h => h) (Or.inl ⟨by rfl, by (intro W _; go_simp)⟩) ?_
      simp only [Act.put, List.setIfInBounds_toArray, List.set_cons_succ, List.set_cons_zero]
      refine wpAnyY_pure (i := 1) 6 (v := .pointer (some ⟨w.heap.size, 2, none⟩)) rfl rfl (by kernel_rfl) (by kernel_rfl) (by kernel_rfl) (fun _ _ _ h => h) (Or.inl ⟨by rfl, by (intro W _; go_simp)⟩) ?_
      simp only [Act.put, List.setIfInBounds_toArray, List.set_cons_succ, List.set_cons_zero]
      refine wpAnyY_takeD (i := 2) 7 (v := .int .i64 (y : Int)) rfl rfl (by kernel_rfl) (by kernel_rfl) (late_of (by kernel_rfl)) (by kernel_rfl) (by kernel_rfl) (fun _ _ _ h => h) HS.out (Or.inl ⟨by rfl, by (intro W hW; obtain ⟨e2, e1, e9⟩ := hW; go_simp)⟩) ?_
      simp only [Act.put, List.setIfInBounds_toArray, List.set_cons_succ, List.set_cons_zero]
      refine wpAnyY_pure (i := 3) 8 (v := .pointer (some ⟨b, 0, none⟩)) rfl rfl (by kernel_rfl) (by kernel_rfl) (by kernel_rfl) (fun _ _ _ h => h) (Or.inl ⟨by rfl, by (intro W _; go_simp)⟩) ?_
      simp only [Act.put, List.setIfInBounds_toArray, List.set_cons_succ, List.set_cons_zero]
      refine wpAnyY_pure (i := 4) 9 (v := .pointer (some ⟨b, 10, none⟩)) rfl rfl (by kernel_rfl) (by kernel_rfl) (by kernel_rfl) (fun _ _ _ h => h) (Or.inl ⟨by rfl, by (intro W _; go_simp)⟩) ?_
      simp only [Act.put, List.setIfInBounds_toArray, List.set_cons_succ, List.set_cons_zero]
      refine wpAnyY_pure (i := 5) 10 (v := .pointer (some ⟨b, 10 + y * 7, none⟩)) rfl rfl (by kernel_rfl) (by kernel_rfl) (by kernel_rfl) (fun _ _ _ h => h) (Or.inl ⟨by rfl, by (intro W _; go_simp)⟩) ?_
      simp only [Act.put, List.setIfInBounds_toArray, List.set_cons_succ, List.set_cons_zero]
      refine wpAnyY_pure (i := 6) 11 (v := .pointer (some ⟨w.heap.size, 1, none⟩)) rfl rfl (by kernel_rfl) (by kernel_rfl) (by kernel_rfl) (fun _ _ _ h => h) (Or.inl ⟨by rfl, by (intro W _; go_simp)⟩) ?_
      simp only [Act.put, List.setIfInBounds_toArray, List.set_cons_succ, List.set_cons_zero]
      refine wpAnyY_takeD (i := 7) 12 (v := .int .i64 (x : Int)) rfl rfl (by kernel_rfl) (by kernel_rfl) (late_of (by kernel_rfl)) (by kernel_rfl) (by kernel_rfl) (fun _ _ _ h => h) HS.out (Or.inl ⟨by rfl, by (intro W hW; obtain ⟨e2, e1, e9⟩ := hW; go_simp)⟩) ?_
      simp only [Act.put, List.setIfInBounds_toArray, List.set_cons_succ, List.set_cons_zero]
      refine wpAnyY_pure (i := 8) 13 (v := .pointer (some ⟨b, 0, none⟩)) rfl rfl (by kernel_rfl) (by kernel_rfl) (by kernel_rfl) (fun _ _ _ h => h) (Or.inl ⟨by rfl, by (intro W _; go_simp)⟩) ?_
      simp only [Act.put, List.setIfInBounds_toArray, List.set_cons_succ, List.set_cons_zero]
      refine wpAnyY_pure (i := 9) 14 (v := .pointer (some ⟨b, 0, none⟩)) rfl rfl (by kernel_rfl) (by kernel_rfl) (by kernel_rfl) (fun _ _ _ h => h) (Or.inl ⟨by rfl, by (intro W _; go_simp)⟩) ?_
      simp only [Act.put, List.setIfInBounds_toArray, List.set_cons_succ, List.set_cons_zero]
      refine wpAnyY_pure (i := 10) 15 (v := .pointer (some ⟨b, 0, none⟩)) rfl rfl (by kernel_rfl) (by kernel_rfl) (by kernel_rfl) (fun _ _ _ h => h) (Or.inl ⟨by rfl, by (intro W _; go_simp)⟩) ?_
      simp only [Act.put, List.setIfInBounds_toArray, List.set_cons_succ, List.set_cons_zero]
      refine wpAnyY_pure (i := 11) 16 (v := .pointer (some ⟨b, 9, none⟩)) rfl rfl (by kernel_rfl) (by kernel_rfl) (by kernel_rfl) (fun _ _ _ h => h) (Or.inl ⟨by rfl, by (intro W _; go_simp)⟩) ?_
      simp only [Act.put, List.setIfInBounds_toArray, List.set_cons_succ, List.set_cons_zero]
      refine wpAnyY_takeD (i := 12) 17 (v := .slice s.r.a s.r.n s.r.c) rfl rfl (by kernel_rfl) (by kernel_rfl) (late_of (by kernel_rfl)) (by kernel_rfl) (by kernel_rfl) (fun _ _ _ h => h) HS.out (Or.inl ⟨by rfl, by (intro W hW; obtain ⟨e2, e1, e9⟩ := hW; go_simp)⟩) ?_
      simp only [Act.put, List.setIfInBounds_toArray, List.set_cons_succ, List.set_cons_zero]
      refine wpAnyY_one (i := 13) rfl (by kernel_rfl) (fun Kc hKc => ?_)
      refine step_fnD 18 rfl (by rfl) 49 _ _ rfl Try.f49 Try.func49 (by kernel_rfl) (by kernel_rfl) #[.pointer (some ⟨b, 10 + y * 7, none⟩), .int .i64 (x : Int), .slice s.r.a s.r.n s.r.c] (by simp [Act.eval]) (comesBy_calls HD.out.lk hy (x : Int) _ _ _ c.arrows HD.out.lk.at'.arrows) ?_
      rintro e wb ⟨rfl, hb⟩
      have HF : Hid (Below w.heap.size w wb) := (HD.out.next hb).low
      clear hb
      refine ⟨_, rfl, hKc.out _ _ (fun h => absurd h (by decide)) ?_⟩
      clear hKc Kc
      simp only [Act.put, List.setIfInBounds_toArray, List.set_cons_succ, List.set_cons_zero]
      refine wpAnyY_one (i := 14) rfl (by kernel_rfl) (fun Kc hKc => ?_)
      go_simp
      refine hKc.out _ _ (fun h => absurd h (by decide)) ?_
      clear hKc Kc
      refine wpAnyY_done (by kernel_rfl) ?_ _
      go_wp2
      go_ret
      exact ⟨ret_bool HE.out.symm, HF.out⟩
  · have e7 : (o != 7) = true := by simp [h7]
    have HE : Hid (gdB c S (o, (x : Int), (y : Int), (z : Int)) = true) := by show _ = _; simp [gdB, h7]
    clear h7
    go_enter Try.func38, Try.ntmps38
    go_wp2
    go_ret
    exact ⟨ret_bool HE.out.symm, HL.out.low⟩

end Go.Proofs.Ytdbfcclmmpcijaa
