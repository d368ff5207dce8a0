/-
  The walks of below, meets, back, place. The walk of at: what a plane has at a cell. The walk of keep: a plane's cell is written.
-/
import Derived.BigQuiet
import Derived.Test.YtnkfibahkmmnpaaGreatDrw
import Derived.Test.YtnkfibahkmmnpaaGreatMaM
namespace Go.Proofs.YtnkfibahkmmnpaaGreat
open Go.RowKit

theorem below_calls (n m : Int) (w : World) : Calls Tryz.prog 107 #[.int .i64 n, .int .i64 m] w fun e w' => e = .returned (.bool (decide (0 ≤ n) && decide (n < m))) ∧ w = w' := by
  by_cases h1 : 0 ≤ n
  · have h1b : decide (0 ≤ n) = true := by simpa using h1
    have HE : Hid ((decide (0 ≤ n) && decide (n < m)) = decide (n < m)) := by show _ = _; rw [h1b]; rfl
    go_enter Tryz.func107, Tryz.ntmps107
    go_wp2
    go_ret
    exact ⟨ret_bool (by rw [HE.out]), rfl⟩
  · have h1b : decide (0 ≤ n) = false := by simpa using h1
    have HE : Hid ((decide (0 ≤ n) && decide (n < m)) = false) := by show _ = _; rw [h1b]; rfl
    go_enter Tryz.func107, Tryz.ntmps107
    go_wp2
    go_ret
    exact ⟨rfl, rfl⟩

theorem meets_calls (n : Int) (r c : Bool) (w : World) : Calls Tryz.prog 83 #[.int .i64 n, .bool r, .bool c] w fun e w' => e = .returned (.bool (metB n r c)) ∧ w = w' := by
  by_cases h1 : n = 1
  · subst h1
    go_enter Tryz.func83, Tryz.ntmps83
    go_wp2
    go_ret
    exact ⟨rfl, rfl⟩
  by_cases h2 : n = 2
  · subst h2
    go_enter Tryz.func83, Tryz.ntmps83
    go_wp2
    go_ret
    exact ⟨rfl, rfl⟩
  by_cases h3 : n = 3
  · subst h3
    cases r <;> (
    go_enter Tryz.func83, Tryz.ntmps83
    go_wp2
    go_ret
    exact ⟨rfl, rfl⟩)
  have HE : Hid (metB n r c = true) := by show _ = _; rw [metB, if_neg h1, if_neg h2, if_neg h3]
  have b1 : (n == 1) = false := by simpa using h1
  have b2 : (n == 2) = false := by simpa using h2
  have b3 : (n == 3) = false := by simpa using h3
  go_enter Tryz.func83, Tryz.ntmps83
  go_wp2
  go_ret
  exact ⟨ret_bool (by rw [HE.out]), rfl⟩

theorem back_calls (n : Int) (w : World) : Calls Tryz.prog 84 #[.int .i64 n] w fun e w' => e = .returned (.tuple #[.int .i64 (backB n).1, .int .i64 (backB n).2]) ∧ w = w' := by
  by_cases h1 : n = 1
  · subst h1
    go_enter Tryz.func84, Tryz.ntmps84
    go_wp2
    go_ret2
    exact ⟨rfl, rfl⟩
  by_cases h2 : n = 2
  · subst h2
    go_enter Tryz.func84, Tryz.ntmps84
    go_wp2
    go_ret2
    exact ⟨rfl, rfl⟩
  by_cases h3 : n = 3
  · subst h3
    go_enter Tryz.func84, Tryz.ntmps84
    go_wp2
    go_ret2
    exact ⟨rfl, rfl⟩
  have HE : Hid (backB n = (0, 0)) := by show _ = _; rw [backB, if_neg h1, if_neg h2, if_neg h3]
  have b1 : (n == 1) = false := by simpa using h1
  have b2 : (n == 2) = false := by simpa using h2
  have b3 : (n == 3) = false := by simpa using h3
  go_enter Tryz.func84, Tryz.ntmps84
  go_wp2
  go_ret2
  exact ⟨by rw [HE.out]; rfl, rfl⟩

/-- Where a plane's cell lies. -/
theorem place_calls {w : World} {g gs P X Y : Nat} {sa : Sl} {f : Nat → Ct} {e : En} {st : Int} (h : Tb w g gs P X Y sa f e st) {p i j : Nat} (hp : p < P) (hi : i ≤ X) (hj : j ≤ Y) :
    Calls Tryz.prog 108 #[.pointer (some ⟨g, 0, none⟩), .int .i64 p, .int .i64 i, .int .i64 j] w fun e w' => e = .returned (.int .i64 (placeB P Y p i j)) ∧ ∃ m, w' = w.drewN m := by
  have c0 := h.cell 0 (v := .int .i64 P) rfl
  have c2 := h.cell 2 (v := .int .i64 Y) rfl
  have b1 := place_lt hp hi hj
  have b2 := h.size
  have b3 : (Y : Int) + 1 ≤ 1048576 := by
    have := h.few.2
    have h2 : 1 * (Y + 1) ≤ (X + 1) * (Y + 1) := Nat.mul_le_mul_right _ (by omega)
    omega
  have b4 : i * (Y + 1) + j < (X + 1) * (Y + 1) := by
    have : i * (Y + 1) ≤ X * (Y + 1) := Nat.mul_le_mul_right _ hi
    rw [Nat.add_mul X 1, Nat.one_mul]; omega
  have b5 := h.few.2
  obtain ⟨A, hA⟩ : ∃ A : Nat, i * (Y + 1) = A := ⟨_, rfl⟩
  have e1 : (i : Int) * ((Y : Int) + 1) = (A : Int) := by rw [← hA]; simp
  obtain ⟨B, hB⟩ : ∃ B : Nat, (A + j) * P = B := ⟨_, rfl⟩
  have e2 : ((A : Int) + j) * P = (B : Int) := by rw [← hB]; simp
  have e3 : B + p < 10485760 := by
    have : placeB P Y p i j = B + p := by rw [placeB, hA, hB]
    omega
  have HF : Hid (placeB P Y p i j = B + p) := by show _ = _; rw [placeB, hA, hB]
  have b6 : A + j < 1048576 := by omega
  clear hA hB b1 b2 b4 b5 h
  go_enter Tryz.func108, Tryz.ntmps108
  go_wp2_with fail
  go_quiet (fail)
  go_wp2
  go_ret
  exact ⟨by rw [HF.out]; rfl, nq, rfl⟩
end Go.Proofs.YtnkfibahkmmnpaaGreat
namespace Go.Proofs.YtnkfibahkmmnpaaGreat
open Go.RowKit

theorem fld78_1 (b : Bool) (m n : Int) (w : World) : (Instr.field 50 (.agg #[.bool b, .int .u16 m, .int .i64 n]) 1).run Tryz.prog w = .ok (.int .u16 m) w := by kernel_rfl
def ctAgg (c : Ct) : Array Value := #[.bool c.has, .int .u16 c.mask, .int .i64 c.num]
section
variable {w : World} {g gs P X Y : Nat} {sa : Sl} {f : Nat → Ct} {e : En} {st : Int}
theorem Tb.least (h : Tb w g gs P X Y sa f e st) : (X : Int) + 1 ≤ 1048576 ∧ (Y : Int) + 1 ≤ 1048576 := by
  have := h.few.2
  have h2 : 1 * (Y + 1) ≤ (X + 1) * (Y + 1) := Nat.mul_le_mul_right _ (by omega)
  have h3 : (X + 1) * 1 ≤ (X + 1) * (Y + 1) := Nat.mul_le_mul_left _ (by omega)
  omega
theorem inR_iff {n : Int} {m : Nat} : inR n m = true ↔ ∃ k : Nat, n = k ∧ k < m := by
  simp only [inR, Bool.and_eq_true, decide_eq_true_eq]
  constructor
  · intro ⟨h1, h2⟩; exact ⟨n.toNat, by omega, by omega⟩
  · rintro ⟨k, rfl, hk⟩; omega
theorem Tb.alloc (h : Tb w g gs P X Y sa f e st) (o : Obj) : Tb (w.alloc o) g gs P X Y sa f e st := h.next (below_new _)
theorem Tb.drew (h : Tb w g gs P X Y sa f e st) : Tb w.drew g gs P X Y sa f e st := ⟨h.box, h.row, h.few⟩
set_option maxHeartbeats 1000000 in
theorem at_out (h : Tb w g gs P X Y sa f e st) (p i j : Int) (ho : (inR p P && inR i (X + 1) && inR j (Y + 1)) = false) :
    Calls Tryz.prog 85 #[.pointer (some ⟨g, 0, none⟩), .int .i64 p, .int .i64 i, .int .i64 j] w fun e w' => e = .returned (.agg (ctAgg (atB P X Y f p i j))) ∧ Below w.heap.size w w' := by
  have hres : Tryz.f85.results = #[.cell 8 50] := by kernel_rfl
  have hlt := lt_block h.box
  have c0 := h.cell 0 (v := .int .i64 P) rfl
  have c1 := h.cell 1 (v := .int .i64 X) rfl
  have c2 := h.cell 2 (v := .int .i64 Y) rfl
  obtain ⟨l1, l2⟩ := h.least
  have hE : Hid (ctAgg (atB P X Y f p i j) = #[.bool false, .int .u16 0, .int .i64 0]) := by show _ = _; rw [atB, if_neg (by rw [ho]; decide)]; rfl
  obtain ⟨r1, h1⟩ : ∃ r, inR p P = r := ⟨_, rfl⟩
  obtain ⟨r2, h2⟩ : ∃ r, inR i (X + 1) = r := ⟨_, rfl⟩
  obtain ⟨r3, h3⟩ : ∃ r, inR j (Y + 1) = r := ⟨_, rfl⟩
  rw [h1, h2, h3] at ho
  have H1 : Hid ((decide (0 ≤ p) && decide (p < (P : Int))) = r1) := h1
  have H2 : Hid ((decide (0 ≤ i) && decide (i < (X : Int) + 1)) = r2) := h2
  have H3 : Hid ((decide (0 ≤ j) && decide (j < (Y : Int) + 1)) = r3) := h3
  clear h1 h2 h3 h
  cases r1
  · clear ho
    go_enter Tryz.func85, Tryz.ntmps85
    go_wp2_with (go_at_call 107; refine (below_calls _ _ _).mono ?_; rintro e w1 ⟨rfl, rfl⟩; rw [H1.out])
    refine bodyPost_ret (v := .agg #[.bool false, .int .u16 0, .int .i64 0]) ?_ rfl ⟨ret_agg hE.out.symm, below_new _⟩
    simp only [results, hres]
    go_simp
  cases r2
  · clear ho
    go_enter Tryz.func85, Tryz.ntmps85
    go_wp2_with (go_at_call 107; refine (below_calls _ _ _).mono ?_; rintro e w1 ⟨rfl, rfl⟩; first | rw [H1.out] | rw [H2.out])
    refine bodyPost_ret (v := .agg #[.bool false, .int .u16 0, .int .i64 0]) ?_ rfl ⟨ret_agg hE.out.symm, below_new _⟩
    simp only [results, hres]
    go_simp
  cases r3
  · clear ho
    go_enter Tryz.func85, Tryz.ntmps85
    go_wp2_with (go_at_call 107; refine (below_calls _ _ _).mono ?_; rintro e w1 ⟨rfl, rfl⟩; first | rw [H1.out] | rw [H2.out] | rw [H3.out])
    refine bodyPost_ret (v := .agg #[.bool false, .int .u16 0, .int .i64 0]) ?_ rfl ⟨ret_agg hE.out.symm, below_new _⟩
    simp only [results, hres]
    go_simp
  · cases ho
set_option maxRecDepth 10000 in
set_option maxHeartbeats 1000000 in
theorem at_in (h : Tb w g gs P X Y sa f e st) (p i j : Nat) (hp : p < P) (hi : i ≤ X) (hj : j ≤ Y) :
    Calls Tryz.prog 85 #[.pointer (some ⟨g, 0, none⟩), .int .i64 p, .int .i64 i, .int .i64 j] w fun e w' => e = .returned (.agg (ctAgg (f (placeB P Y p i j)))) ∧ Below w.heap.size w w' := by
  have hres : Tryz.f85.results = #[.cell 8 50] := by kernel_rfl
  have hlt := lt_block h.box
  have hls := lt_block h.row
  have c0 := h.cell 0 (v := .int .i64 P) rfl
  have c1 := h.cell 1 (v := .int .i64 X) rfl
  have c2 := h.cell 2 (v := .int .i64 Y) rfl
  obtain ⟨l1, l2⟩ := h.least
  have H1 : Hid ((decide (0 ≤ (p : Int)) && decide ((p : Int) < (P : Int))) = true) := by show _ = _; simp; omega
  have H2 : Hid ((decide (0 ≤ (i : Int)) && decide ((i : Int) < (X : Int) + 1)) = true) := by show _ = _; simp; omega
  have H3 : Hid ((decide (0 ≤ (j : Int)) && decide ((j : Int) < (Y : Int) + 1)) = true) := by show _ = _; simp; omega
  have HT : Hid (∀ o, Tb ((w.alloc o).drew) g gs P X Y sa f e st) := fun o => (h.alloc o).drew
  have hq := place_lt hp hi hj
  have hsz := h.size
  have HP : Hid (∀ W, Tb W g gs P X Y sa f e st → Calls Tryz.prog 108 #[.pointer (some ⟨g, 0, none⟩), .int .i64 p, .int .i64 i, .int .i64 j] W fun e w' => e = .returned (.int .i64 (placeB P Y p i j)) ∧ ∃ m, w' = W.drewN m) := fun W hW => place_calls hW hp hi hj
  clear h
  generalize placeB P Y p i j = q at *
  go_enter Tryz.func85, Tryz.ntmps85
  go_upto_region 3 with (go_at_call 107; refine (below_calls _ _ _).mono ?_; rintro e w1 ⟨rfl, rfl⟩; first | rw [H1.out] | rw [H2.out] | rw [H3.out])
  have HU := HT.out (.cells #[.bool false, .int .u16 0, .int .i64 0] 50)
  clear HT c0 c1 c2
  generalize hwd : w.alloc (.cells #[.bool false, .int .u16 0, .int .i64 0] 50) = wd at *
  have hsz2 : wd.heap.size = w.heap.size + 1 := by rw [← hwd]; simp
  have hnb : wd.heap[w.heap.size]? = some (.cells #[.bool false, .int .u16 0, .int .i64 0] 50 (0, 0)) := by rw [← hwd]; exact heap_alloc_new _ _
  have HB : Hid (Below w.heap.size w wd) := by show Below _ _ _; rw [← hwd]; exact below_new _
  clear hwd
  generalize hgb : w.heap.size = gb at *
  have HV : Hid (Tb wd.drew g gs P X Y sa f e st) := HU
  have HS : Hid (wd.drew.cell? ⟨g, 3, none⟩ = some (.slice (some ⟨gs, 0, none⟩) (P * (X + 1) * (Y + 1)) (P * (X + 1) * (Y + 1)))) := HU.cell 3 rfl
  have s0 : wd.cell? ⟨gs, q * 3, none⟩ = some (.bool (f q).has) := (HU.slot (m := 0) hq (by omega)).1
  have s1 : wd.cell? ⟨gs, q * 3 + 1, none⟩ = some (.int .u16 (f q).mask) := (HU.slot (m := 1) hq (by omega)).1
  have s2 : wd.cell? ⟨gs, q * 3 + 2, none⟩ = some (.int .i64 (f q).num) := (HU.slot (m := 2) hq (by omega)).1
  have z0 := cell_block hnb 0 _ rfl
  have z1 := cell_block hnb 1 _ rfl
  have z2 := cell_block hnb 2 _ rfl
  have zf : ∀ k, wd.frozen? ⟨gb, k, none⟩ = false := fun k => frozen_of_row wd gb k _ _ hnb
  have f0 := zf 0
  have f1 := zf 1
  have f2 := zf 2
  clear HU zf
  generalize P * (X + 1) * (Y + 1) = n at *

  refine wp_region_Y (fun j => [11].contains j) (fun W : World => W.cell? ⟨g, 3, none⟩ = some (.slice (some ⟨gs, 0, none⟩) n n)) (by kernel_rfl) ?_
  refine wpAnyY_pure (i := 0) 37 (v := .pointer (some ⟨g, 0, none⟩)) rfl rfl (by kernel_rfl) (by kernel_rfl) (by kernel_rfl) (fun _ _ _ h => h) (Or.inl ⟨by rfl, by (intro W _; go_simp)⟩) ?_
  simp only [Act.put, List.setIfInBounds_toArray, List.set_cons_succ, List.set_cons_zero]
  refine wpAnyY_pure (i := 1) 38 (v := .pointer (some ⟨g, 0, none⟩)) rfl rfl (by kernel_rfl) (by kernel_rfl) (by kernel_rfl) (fun _ _ _ h => h) (Or.inl ⟨by rfl, by (intro W _; go_simp)⟩) ?_
  simp only [Act.put, List.setIfInBounds_toArray, List.set_cons_succ, List.set_cons_zero]
  refine wpAnyY_pure (i := 2) 39 (v := .pointer (some ⟨g, 3, none⟩)) rfl rfl (by kernel_rfl) (by kernel_rfl) (by kernel_rfl) (fun _ _ _ h => h) (Or.inl ⟨by rfl, by (intro W _; go_simp)⟩) ?_
  simp only [Act.put, List.setIfInBounds_toArray, List.set_cons_succ, List.set_cons_zero]
  refine wpAnyY_takeD (i := 3) 40 (v := .slice (some ⟨gs, 0, none⟩) n n) rfl rfl (by kernel_rfl) (by kernel_rfl) (late_of (by kernel_rfl)) (by kernel_rfl) (by kernel_rfl) (fun _ _ _ h => h) HS.out (Or.inl ⟨by rfl, by (intro W hW; have e0 := hW; go_simp)⟩) ?_
  simp only [Act.put, List.setIfInBounds_toArray, List.set_cons_succ, List.set_cons_zero]
  refine wpAnyY_pure (i := 4) 41 (v := .pointer (some ⟨g, 0, none⟩)) rfl rfl (by kernel_rfl) (by kernel_rfl) (by kernel_rfl) (fun _ _ _ h => h) (Or.inl ⟨by rfl, by (intro W _; go_simp)⟩) ?_
  simp only [Act.put, List.setIfInBounds_toArray, List.set_cons_succ, List.set_cons_zero]
  refine wpAnyY_pure (i := 5) 42 (v := .int .i64 p) rfl rfl (by kernel_rfl) (by kernel_rfl) (by kernel_rfl) (fun _ _ _ h => h) (Or.inl ⟨by rfl, by (intro W _; go_simp)⟩) ?_
  simp only [Act.put, List.setIfInBounds_toArray, List.set_cons_succ, List.set_cons_zero]
  refine wpAnyY_pure (i := 6) 43 (v := .int .i64 i) rfl rfl (by kernel_rfl) (by kernel_rfl) (by kernel_rfl) (fun _ _ _ h => h) (Or.inl ⟨by rfl, by (intro W _; go_simp)⟩) ?_
  simp only [Act.put, List.setIfInBounds_toArray, List.set_cons_succ, List.set_cons_zero]
  refine wpAnyY_pure (i := 7) 44 (v := .int .i64 j) rfl rfl (by kernel_rfl) (by kernel_rfl) (by kernel_rfl) (fun _ _ _ h => h) (Or.inl ⟨by rfl, by (intro W _; go_simp)⟩) ?_
  simp only [Act.put, List.setIfInBounds_toArray, List.set_cons_succ, List.set_cons_zero]
  refine wpAnyY_one (i := 8) rfl (by kernel_rfl) (fun Kc hKc => ?_)
  refine step_fnD 45 rfl (by rfl) 108 _ _ rfl Tryz.f108 Tryz.func108 (by kernel_rfl) (by kernel_rfl) #[.pointer (some ⟨g, 0, none⟩), .int .i64 p, .int .i64 i, .int .i64 j] (by simp [Act.eval]) (HP.out _ HV.out) ?_
  rintro e we ⟨rfl, m, rfl⟩
  refine ⟨_, rfl, hKc.out _ _ (fun _ h => h) ?_⟩
  clear hKc Kc
  simp only [Act.put, List.setIfInBounds_toArray, List.set_cons_succ, List.set_cons_zero]
  refine wpAnyY_pure (i := 9) 46 (v := .pointer (some ⟨gs, q * 3, none⟩)) rfl rfl (by kernel_rfl) (by kernel_rfl) (by kernel_rfl) (fun _ _ _ h => h) (Or.inl ⟨by rfl, by (intro W _; go_simp)⟩) ?_
  simp only [Act.put, List.setIfInBounds_toArray, List.set_cons_succ, List.set_cons_zero]
  refine wpAnyY_one (i := 10) rfl (by kernel_rfl) (fun Kc hKc => ?_)
  go_simp
  refine hKc.out _ _ (fun _ h => h) ?_
  clear hKc Kc
  refine wpAnyY_one (i := 11) rfl (by kernel_rfl) (fun Kc hKc => ?_)
  go_simp
  refine hKc.out _ _ (fun h => absurd h (by decide)) ?_
  clear hKc Kc
  refine wpAnyY_done (by kernel_rfl) ?_ _
  go_wp2
  refine bodyPost_ret (v := .agg #[.bool (f q).has, .int .u16 (f q).mask, .int .i64 (f q).num]) ?_ rfl ⟨rfl, ?_⟩
  · simp only [results, hres]
    go_simp
  · rw [hgb]
    exact (((below_drewN HB.out _).setCell (Nat.le_refl _) _).setCell (Nat.le_refl _) _).setCell (Nat.le_refl _) _
/-- What a plane has at a cell, whichever is asked. -/
theorem at_calls (h : Tb w g gs P X Y sa f e st) (p i j : Int) :
    Calls Tryz.prog 85 #[.pointer (some ⟨g, 0, none⟩), .int .i64 p, .int .i64 i, .int .i64 j] w fun e w' => e = .returned (.agg (ctAgg (atB P X Y f p i j))) ∧ Below w.heap.size w w' := by
  cases ho : (inR p P && inR i (X + 1) && inR j (Y + 1)) with
  | false => exact at_out h p i j ho
  | true =>
    have hh := ho
    simp only [Bool.and_eq_true] at hh
    obtain ⟨⟨h1, h2⟩, h3⟩ := hh
    obtain ⟨p, rfl, hp⟩ := inR_iff.1 h1
    obtain ⟨i, rfl, hi⟩ := inR_iff.1 h2
    obtain ⟨j, rfl, hj⟩ := inR_iff.1 h3
    rw [atB, if_pos ho]
    exact at_in h p i j hp (by omega) (by omega)
set_option maxHeartbeats 1000000 in
theorem value_calls (h : Tb w g gs P X Y sa f e st) (p i j : Int) :
    Calls Tryz.prog 87 #[.pointer (some ⟨g, 0, none⟩), .int .i64 p, .int .i64 i, .int .i64 j] w fun e w' => e = .returned (.tuple #[.int .i64 (atB P X Y f p i j).num, .bool (atB P X Y f p i j).has]) ∧ Below w.heap.size w w' := by
  have HA := at_calls h p i j
  unfold ctAgg at HA
  have HH : Hid (Calls _ _ _ _ _) := HA
  clear HA h
  generalize atB P X Y f p i j = c at *
  go_enter Tryz.func87, Tryz.ntmps87
  go_wp2_with (go_at_call 85; refine HH.out.mono ?_; rintro e w1 ⟨rfl, hb⟩; have HB : Hid (Below w.heap.size w w1) := hb; clear hb)
  go_quiet (fail)
  go_wp2
  go_ret2
  exact ⟨rfl, below_drewN (HB.out.alloc HB.out.size _) _⟩
set_option maxHeartbeats 1000000 in
set_option maxRecDepth 10000 in
theorem mask_calls (h : Tb w g gs P X Y sa f e st) (p i j : Int) (hm : 0 ≤ (atB P X Y f p i j).mask ∧ (atB P X Y f p i j).mask < 65536) :
    Calls Tryz.prog 93 #[.pointer (some ⟨g, 0, none⟩), .int .i64 p, .int .i64 i, .int .i64 j] w fun e w' => e = .returned (.int .i64 (atB P X Y f p i j).mask) ∧ Below w.heap.size w w' := by
  have HA := at_calls h p i j
  unfold ctAgg at HA
  have HH : Hid (Calls _ _ _ _ _) := HA
  clear HA h
  generalize atB P X Y f p i j = c at *
  have hf : ∀ W, (Instr.field 50 (.agg #[.bool c.has, .int .u16 c.mask, .int .i64 c.num]) 1).run Tryz.prog W = .ok (.int .u16 c.mask) W := fun W => fld78_1 _ _ _ W
  go_enter Tryz.func93, Tryz.ntmps93
  go_wp2_with (go_at_call 85; refine HH.out.mono ?_; rintro e w1 ⟨rfl, hb⟩; have HB : Hid (Below w.heap.size w w1) := hb; clear hb)
  go_ret
  exact ⟨rfl, HB.out⟩
end
end Go.Proofs.YtnkfibahkmmnpaaGreat
namespace Go.Proofs.YtnkfibahkmmnpaaGreat
open Go.RowKit

theorem below_setBoth {B : Nat} {a b : World} (h : Below B a b) (p : Addr) (u : Value) : Below B (a.setCell p u) (b.setCell p u) := by
  refine ⟨h.os, h.tape, h.output, by simpa [World.setCell] using h.size, fun k hk => ?_⟩
  simp only [World.setCell, Array.getElem?_modify]
  rw [h.block k hk]
/-- A slot is written, three cells. -/
def keptW (w : World) (gs k : Nat) (c : Ct) : World := ((w.setCell ⟨gs, k * 3, none⟩ (.bool c.has)).setCell ⟨gs, k * 3 + 1, none⟩ (.int .u16 c.mask)).setCell ⟨gs, k * 3 + 2, none⟩ (.int .i64 c.num)
theorem below_kept {B : Nat} {a b : World} (h : Below B a b) (gs k : Nat) (c : Ct) : Below B (keptW a gs k c) (keptW b gs k c) := below_setBoth (below_setBoth (below_setBoth h _ _) _ _) _ _
section
variable {w : World} {g gs P X Y : Nat} {sa : Sl} {f : Nat → Ct} {e : En} {st : Int}
set_option maxRecDepth 10000 in
set_option maxHeartbeats 1000000 in
theorem keep_true (h : Tb w g gs P X Y sa f e st) (p i j : Nat) (m n : Int) (hp : p < P) (hi : i ≤ X) (hj : j ≤ Y) :
    Calls Tryz.prog 86 #[.pointer (some ⟨g, 0, none⟩), .int .i64 p, .int .i64 i, .int .i64 j, .agg #[.bool true, .int .u16 m, .int .i64 n]] w fun e w' => e = .returned (.tuple #[]) ∧ Below w.heap.size (keptW w gs (placeB P Y p i j) ⟨true, m, n⟩) w' := by
  have hlt := lt_block h.box
  have hls := lt_block h.row
  have HT : Hid (∀ o, Tb ((w.alloc o).drew) g gs P X Y sa f e st) := fun o => (h.alloc o).drew
  have hq := place_lt hp hi hj
  have hsz := h.size
  have HP : Hid (∀ W, Tb W g gs P X Y sa f e st → Calls Tryz.prog 108 #[.pointer (some ⟨g, 0, none⟩), .int .i64 p, .int .i64 i, .int .i64 j] W fun e w' => e = .returned (.int .i64 (placeB P Y p i j)) ∧ ∃ m, w' = W.drewN m) := fun W hW => place_calls hW hp hi hj
  clear h
  generalize placeB P Y p i j = q at *
  go_enter Tryz.func86, Tryz.ntmps86
  go_upto_region 3 with (fail)
  have HU := HT.out (.cells #[.bool true, .int .u16 m, .int .i64 n] 50)
  clear HT
  generalize hwd : w.alloc (.cells #[.bool true, .int .u16 m, .int .i64 n] 50) = wd at *
  have hsz2 : wd.heap.size = w.heap.size + 1 := by rw [← hwd]; simp
  have hnb : wd.heap[w.heap.size]? = some (.cells #[.bool true, .int .u16 m, .int .i64 n] 50 (0, 0)) := by rw [← hwd]; exact heap_alloc_new _ _
  have HB : Hid (Below w.heap.size w wd) := by show Below _ _ _; rw [← hwd]; exact below_new _
  clear hwd
  generalize hgb : w.heap.size = gb at *
  have HV : Hid (Tb wd.drew g gs P X Y sa f e st) := HU
  have s0 : wd.cell? ⟨gs, q * 3, none⟩ = some (.bool (f q).has) := (HU.slot (m := 0) hq (by omega)).1
  have s1 : wd.cell? ⟨gs, q * 3 + 1, none⟩ = some (.int .u16 (f q).mask) := (HU.slot (m := 1) hq (by omega)).1
  have s2 : wd.cell? ⟨gs, q * 3 + 2, none⟩ = some (.int .i64 (f q).num) := (HU.slot (m := 2) hq (by omega)).1
  have HS : Hid (wd.drew.cell? ⟨g, 3, none⟩ = some (.slice (some ⟨gs, 0, none⟩) (P * (X + 1) * (Y + 1)) (P * (X + 1) * (Y + 1))) ∧ wd.drew.cell? ⟨gb, 0, none⟩ = some (.bool true) ∧ wd.drew.cell? ⟨gb, 1, none⟩ = some (.int .u16 m) ∧ wd.drew.cell? ⟨gb, 2, none⟩ = some (.int .i64 n)) := ⟨HU.cell 3 rfl, cell_block hnb 0 _ rfl, cell_block hnb 1 _ rfl, cell_block hnb 2 _ rfl⟩
  have f0 : wd.frozen? ⟨gs, q * 3, none⟩ = false := (HU.slot (m := 0) hq (by omega)).2
  have f1 : wd.frozen? ⟨gs, q * 3 + 1, none⟩ = false := (HU.slot (m := 1) hq (by omega)).2
  have f2 : wd.frozen? ⟨gs, q * 3 + 2, none⟩ = false := (HU.slot (m := 2) hq (by omega)).2
  clear HU hnb
  generalize P * (X + 1) * (Y + 1) = N at *
  refine wp_region_Y (fun j => [11].contains j) (fun W : World => W.cell? ⟨g, 3, none⟩ = some (.slice (some ⟨gs, 0, none⟩) N N) ∧ W.cell? ⟨gb, 0, none⟩ = some (.bool true) ∧ W.cell? ⟨gb, 1, none⟩ = some (.int .u16 m) ∧ W.cell? ⟨gb, 2, none⟩ = some (.int .i64 n)) (by kernel_rfl) ?_
  refine wpAnyY_pure (i := 0) 14 (v := .pointer (some ⟨g, 0, none⟩)) rfl rfl (by kernel_rfl) (by kernel_rfl) (by kernel_rfl) (fun _ _ _ h => h) (Or.inl ⟨by rfl, by (intro W _; go_simp)⟩) ?_
  simp only [Act.put, List.setIfInBounds_toArray, List.set_cons_succ, List.set_cons_zero]
  refine wpAnyY_pure (i := 1) 15 (v := .pointer (some ⟨g, 0, none⟩)) rfl rfl (by kernel_rfl) (by kernel_rfl) (by kernel_rfl) (fun _ _ _ h => h) (Or.inl ⟨by rfl, by (intro W _; go_simp)⟩) ?_
  simp only [Act.put, List.setIfInBounds_toArray, List.set_cons_succ, List.set_cons_zero]
  refine wpAnyY_pure (i := 2) 16 (v := .pointer (some ⟨g, 3, none⟩)) rfl rfl (by kernel_rfl) (by kernel_rfl) (by kernel_rfl) (fun _ _ _ h => h) (Or.inl ⟨by rfl, by (intro W _; go_simp)⟩) ?_
  simp only [Act.put, List.setIfInBounds_toArray, List.set_cons_succ, List.set_cons_zero]
  refine wpAnyY_takeD (i := 3) 17 (v := .slice (some ⟨gs, 0, none⟩) N N) rfl rfl (by kernel_rfl) (by kernel_rfl) (late_of (by kernel_rfl)) (by kernel_rfl) (by kernel_rfl) (fun _ _ _ h => h) HS.out (Or.inl ⟨by rfl, by (intro W hW; obtain ⟨e0, e1, e2, e3⟩ := hW; go_simp)⟩) ?_
  simp only [Act.put, List.setIfInBounds_toArray, List.set_cons_succ, List.set_cons_zero]
  refine wpAnyY_pure (i := 4) 18 (v := .pointer (some ⟨g, 0, none⟩)) rfl rfl (by kernel_rfl) (by kernel_rfl) (by kernel_rfl) (fun _ _ _ h => h) (Or.inl ⟨by rfl, by (intro W _; go_simp)⟩) ?_
  simp only [Act.put, List.setIfInBounds_toArray, List.set_cons_succ, List.set_cons_zero]
  refine wpAnyY_pure (i := 5) 19 (v := .int .i64 p) rfl rfl (by kernel_rfl) (by kernel_rfl) (by kernel_rfl) (fun _ _ _ h => h) (Or.inl ⟨by rfl, by (intro W _; go_simp)⟩) ?_
  simp only [Act.put, List.setIfInBounds_toArray, List.set_cons_succ, List.set_cons_zero]
  refine wpAnyY_pure (i := 6) 20 (v := .int .i64 i) rfl rfl (by kernel_rfl) (by kernel_rfl) (by kernel_rfl) (fun _ _ _ h => h) (Or.inl ⟨by rfl, by (intro W _; go_simp)⟩) ?_
  simp only [Act.put, List.setIfInBounds_toArray, List.set_cons_succ, List.set_cons_zero]
  refine wpAnyY_pure (i := 7) 21 (v := .int .i64 j) rfl rfl (by kernel_rfl) (by kernel_rfl) (by kernel_rfl) (fun _ _ _ h => h) (Or.inl ⟨by rfl, by (intro W _; go_simp)⟩) ?_
  simp only [Act.put, List.setIfInBounds_toArray, List.set_cons_succ, List.set_cons_zero]
  refine wpAnyY_takeD (i := 9) 23 (v := .agg #[.bool true, .int .u16 m, .int .i64 n]) rfl rfl (by kernel_rfl) (by kernel_rfl) (late_of (by kernel_rfl)) (by kernel_rfl) (by kernel_rfl) (fun _ _ _ h => h) HS.out (Or.inl ⟨by rfl, by (intro W hW; obtain ⟨e0, e1, e2, e3⟩ := hW; go_simp)⟩) ?_
  simp only [Act.put, List.setIfInBounds_toArray, List.set_cons_succ, List.set_cons_zero]
  refine wpAnyY_one (i := 8) rfl (by kernel_rfl) (fun Kc hKc => ?_)
  refine step_fnD 22 rfl (by rfl) 108 _ _ rfl Tryz.f108 Tryz.func108 (by kernel_rfl) (by kernel_rfl) #[.pointer (some ⟨g, 0, none⟩), .int .i64 p, .int .i64 i, .int .i64 j] (by simp [Act.eval]) (HP.out _ HV.out) ?_
  rintro e we ⟨rfl, mm, rfl⟩
  refine ⟨_, rfl, hKc.out _ _ (fun _ h => h) ?_⟩
  clear hKc Kc
  simp only [Act.put, List.setIfInBounds_toArray, List.set_cons_succ, List.set_cons_zero]
  refine wpAnyY_pure (i := 10) 24 (v := .pointer (some ⟨gs, q * 3, none⟩)) rfl rfl (by kernel_rfl) (by kernel_rfl) (by kernel_rfl) (fun _ _ _ h => h) (Or.inl ⟨by rfl, by (intro W _; go_simp)⟩) ?_
  simp only [Act.put, List.setIfInBounds_toArray, List.set_cons_succ, List.set_cons_zero]
  refine wpAnyY_one (i := 11) rfl (by kernel_rfl) (fun Kc hKc => ?_)
  go_simp
  refine hKc.out _ _ (fun h => absurd h (by decide)) ?_
  clear hKc Kc
  refine wpAnyY_done (by kernel_rfl) ?_ _
  go_wp2
  go_end0
  refine ⟨rfl, ?_⟩
  rw [hgb]
  exact below_kept (below_drewN HB.out (1 + mm)) gs q ⟨true, m, n⟩
set_option maxRecDepth 10000 in
set_option maxHeartbeats 1000000 in
theorem keep_false (h : Tb w g gs P X Y sa f e st) (p i j : Nat) (m n : Int) (hp : p < P) (hi : i ≤ X) (hj : j ≤ Y) :
    Calls Tryz.prog 86 #[.pointer (some ⟨g, 0, none⟩), .int .i64 p, .int .i64 i, .int .i64 j, .agg #[.bool false, .int .u16 m, .int .i64 n]] w fun e w' => e = .returned (.tuple #[]) ∧ Below w.heap.size (keptW w gs (placeB P Y p i j) ⟨false, 0, 0⟩) w' := by
  have hlt := lt_block h.box
  have hls := lt_block h.row
  have HT : Hid (∀ o, Tb ((w.alloc o).drew) g gs P X Y sa f e st) := fun o => (h.alloc o).drew
  have hq := place_lt hp hi hj
  have hsz := h.size
  have HP : Hid (∀ W, Tb W g gs P X Y sa f e st → Calls Tryz.prog 108 #[.pointer (some ⟨g, 0, none⟩), .int .i64 p, .int .i64 i, .int .i64 j] W fun e w' => e = .returned (.int .i64 (placeB P Y p i j)) ∧ ∃ m, w' = W.drewN m) := fun W hW => place_calls hW hp hi hj
  clear h
  generalize placeB P Y p i j = q at *
  go_enter Tryz.func86, Tryz.ntmps86
  go_upto_region 3 with (fail)
  have HU := HT.out (.cells #[.bool false, .int .u16 0, .int .i64 0] 50)
  clear HT
  generalize hwd : w.alloc (.cells #[.bool false, .int .u16 0, .int .i64 0] 50) = wd at *
  have hsz2 : wd.heap.size = w.heap.size + 1 := by rw [← hwd]; simp
  have hnb : wd.heap[w.heap.size]? = some (.cells #[.bool false, .int .u16 0, .int .i64 0] 50 (0, 0)) := by rw [← hwd]; exact heap_alloc_new _ _
  have HB : Hid (Below w.heap.size w wd) := by show Below _ _ _; rw [← hwd]; exact below_new _
  clear hwd
  generalize hgb : w.heap.size = gb at *
  have HV : Hid (Tb wd.drew g gs P X Y sa f e st) := HU
  have s0 : wd.cell? ⟨gs, q * 3, none⟩ = some (.bool (f q).has) := (HU.slot (m := 0) hq (by omega)).1
  have s1 : wd.cell? ⟨gs, q * 3 + 1, none⟩ = some (.int .u16 (f q).mask) := (HU.slot (m := 1) hq (by omega)).1
  have s2 : wd.cell? ⟨gs, q * 3 + 2, none⟩ = some (.int .i64 (f q).num) := (HU.slot (m := 2) hq (by omega)).1
  have HS : Hid (wd.drew.cell? ⟨g, 3, none⟩ = some (.slice (some ⟨gs, 0, none⟩) (P * (X + 1) * (Y + 1)) (P * (X + 1) * (Y + 1))) ∧ wd.drew.cell? ⟨gb, 0, none⟩ = some (.bool false) ∧ wd.drew.cell? ⟨gb, 1, none⟩ = some (.int .u16 0) ∧ wd.drew.cell? ⟨gb, 2, none⟩ = some (.int .i64 0)) := ⟨HU.cell 3 rfl, cell_block hnb 0 _ rfl, cell_block hnb 1 _ rfl, cell_block hnb 2 _ rfl⟩
  have f0 : wd.frozen? ⟨gs, q * 3, none⟩ = false := (HU.slot (m := 0) hq (by omega)).2
  have f1 : wd.frozen? ⟨gs, q * 3 + 1, none⟩ = false := (HU.slot (m := 1) hq (by omega)).2
  have f2 : wd.frozen? ⟨gs, q * 3 + 2, none⟩ = false := (HU.slot (m := 2) hq (by omega)).2
  clear HU hnb
  generalize P * (X + 1) * (Y + 1) = N at *
  refine wp_region_Y (fun j => [11].contains j) (fun W : World => W.cell? ⟨g, 3, none⟩ = some (.slice (some ⟨gs, 0, none⟩) N N) ∧ W.cell? ⟨gb, 0, none⟩ = some (.bool false) ∧ W.cell? ⟨gb, 1, none⟩ = some (.int .u16 0) ∧ W.cell? ⟨gb, 2, none⟩ = some (.int .i64 0)) (by kernel_rfl) ?_
  refine wpAnyY_pure (i := 0) 14 (v := .pointer (some ⟨g, 0, none⟩)) rfl rfl (by kernel_rfl) (by kernel_rfl) (by kernel_rfl) (fun _ _ _ h => h) (Or.inl ⟨by rfl, by (intro W _; go_simp)⟩) ?_
  simp only [Act.put, List.setIfInBounds_toArray, List.set_cons_succ, List.set_cons_zero]
  refine wpAnyY_pure (i := 1) 15 (v := .pointer (some ⟨g, 0, none⟩)) rfl rfl (by kernel_rfl) (by kernel_rfl) (by kernel_rfl) (fun _ _ _ h => h) (Or.inl ⟨by rfl, by (intro W _; go_simp)⟩) ?_
  simp only [Act.put, List.setIfInBounds_toArray, List.set_cons_succ, List.set_cons_zero]
  refine wpAnyY_pure (i := 2) 16 (v := .pointer (some ⟨g, 3, none⟩)) rfl rfl (by kernel_rfl) (by kernel_rfl) (by kernel_rfl) (fun _ _ _ h => h) (Or.inl ⟨by rfl, by (intro W _; go_simp)⟩) ?_
  simp only [Act.put, List.setIfInBounds_toArray, List.set_cons_succ, List.set_cons_zero]
  refine wpAnyY_takeD (i := 3) 17 (v := .slice (some ⟨gs, 0, none⟩) N N) rfl rfl (by kernel_rfl) (by kernel_rfl) (late_of (by kernel_rfl)) (by kernel_rfl) (by kernel_rfl) (fun _ _ _ h => h) HS.out (Or.inl ⟨by rfl, by (intro W hW; obtain ⟨e0, e1, e2, e3⟩ := hW; go_simp)⟩) ?_
  simp only [Act.put, List.setIfInBounds_toArray, List.set_cons_succ, List.set_cons_zero]
  refine wpAnyY_pure (i := 4) 18 (v := .pointer (some ⟨g, 0, none⟩)) rfl rfl (by kernel_rfl) (by kernel_rfl) (by kernel_rfl) (fun _ _ _ h => h) (Or.inl ⟨by rfl, by (intro W _; go_simp)⟩) ?_
  simp only [Act.put, List.setIfInBounds_toArray, List.set_cons_succ, List.set_cons_zero]
  refine wpAnyY_pure (i := 5) 19 (v := .int .i64 p) rfl rfl (by kernel_rfl) (by kernel_rfl) (by kernel_rfl) (fun _ _ _ h => h) (Or.inl ⟨by rfl, by (intro W _; go_simp)⟩) ?_
  simp only [Act.put, List.setIfInBounds_toArray, List.set_cons_succ, List.set_cons_zero]
  refine wpAnyY_pure (i := 6) 20 (v := .int .i64 i) rfl rfl (by kernel_rfl) (by kernel_rfl) (by kernel_rfl) (fun _ _ _ h => h) (Or.inl ⟨by rfl, by (intro W _; go_simp)⟩) ?_
  simp only [Act.put, List.setIfInBounds_toArray, List.set_cons_succ, List.set_cons_zero]
  refine wpAnyY_pure (i := 7) 21 (v := .int .i64 j) rfl rfl (by kernel_rfl) (by kernel_rfl) (by kernel_rfl) (fun _ _ _ h => h) (Or.inl ⟨by rfl, by (intro W _; go_simp)⟩) ?_
  simp only [Act.put, List.setIfInBounds_toArray, List.set_cons_succ, List.set_cons_zero]
  refine wpAnyY_takeD (i := 9) 23 (v := .agg #[.bool false, .int .u16 0, .int .i64 0]) rfl rfl (by kernel_rfl) (by kernel_rfl) (late_of (by kernel_rfl)) (by kernel_rfl) (by kernel_rfl) (fun _ _ _ h => h) HS.out (Or.inl ⟨by rfl, by (intro W hW; obtain ⟨e0, e1, e2, e3⟩ := hW; go_simp)⟩) ?_
  simp only [Act.put, List.setIfInBounds_toArray, List.set_cons_succ, List.set_cons_zero]
  refine wpAnyY_one (i := 8) rfl (by kernel_rfl) (fun Kc hKc => ?_)
  refine step_fnD 22 rfl (by rfl) 108 _ _ rfl Tryz.f108 Tryz.func108 (by kernel_rfl) (by kernel_rfl) #[.pointer (some ⟨g, 0, none⟩), .int .i64 p, .int .i64 i, .int .i64 j] (by simp [Act.eval]) (HP.out _ HV.out) ?_
  rintro e we ⟨rfl, mm, rfl⟩
  refine ⟨_, rfl, hKc.out _ _ (fun _ h => h) ?_⟩
  clear hKc Kc
  simp only [Act.put, List.setIfInBounds_toArray, List.set_cons_succ, List.set_cons_zero]
  refine wpAnyY_pure (i := 10) 24 (v := .pointer (some ⟨gs, q * 3, none⟩)) rfl rfl (by kernel_rfl) (by kernel_rfl) (by kernel_rfl) (fun _ _ _ h => h) (Or.inl ⟨by rfl, by (intro W _; go_simp)⟩) ?_
  simp only [Act.put, List.setIfInBounds_toArray, List.set_cons_succ, List.set_cons_zero]
  refine wpAnyY_one (i := 11) rfl (by kernel_rfl) (fun Kc hKc => ?_)
  go_simp
  refine hKc.out _ _ (fun h => absurd h (by decide)) ?_
  clear hKc Kc
  refine wpAnyY_done (by kernel_rfl) ?_ _
  go_wp2
  go_end0
  refine ⟨rfl, ?_⟩
  rw [hgb]
  exact below_kept (below_drewN HB.out (1 + mm)) gs q ⟨false, 0, 0⟩
/-- A plane's cell is written: what it has, or nothing. -/
theorem keep_calls (h : Tb w g gs P X Y sa f e st) (p i j : Nat) (c : Ct) (hp : p < P) (hi : i ≤ X) (hj : j ≤ Y) :
    Calls Tryz.prog 86 #[.pointer (some ⟨g, 0, none⟩), .int .i64 p, .int .i64 i, .int .i64 j, .agg (ctAgg c)] w fun e w' => e = .returned (.tuple #[]) ∧ Below w.heap.size (keptW w gs (placeB P Y p i j) (if c.has then c else ct0)) w' := by
  obtain ⟨q, m, n⟩ := c
  cases q
  · exact keep_false h p i j m n hp hi hj
  · exact keep_true h p i j m n hp hi hj
end
end Go.Proofs.YtnkfibahkmmnpaaGreat
