/-
  The walks of the document's met, back, Place, Runs, numbers. The walks of the document's load and At.
-/
import Derived.BigQuiet
import Derived.Test.YtnkfibahkmmnpaaGreatKn
namespace Go.Proofs.YtnkfibahkmmnpaaGreat
open Go.RowKit

theorem dmet_calls (k i j row col : Int) (hk : 0 ≤ k ∧ k ≤ 3) (w : World) : Calls Tryz.prog 36 #[.int .i64 k, .int .i64 i, .int .i64 j, .int .i64 row, .int .i64 col] w fun e w' => e = .returned (.bool (metB k (decide (i = row)) (decide (j = col)))) ∧ w = w' := by
  have : k = 0 ∨ k = 1 ∨ k = 2 ∨ k = 3 := by omega
  clear hk
  rcases this with rfl | rfl | rfl | rfl
  · go_enter Tryz.func36, Tryz.ntmps36
    go_wp2
    go_ret
    exact ⟨rfl, rfl⟩
  · by_cases h1 : i = row
    · have HE : Hid (metB 1 (decide (i = row)) (decide (j = col)) = true) := by show _ = _; rw [metB, if_pos rfl]; simpa using h1
      have e1 : (i != row) = false := by simp [h1]
      clear h1
      go_enter Tryz.func36, Tryz.ntmps36
      go_wp2
      go_ret
      exact ⟨ret_bool HE.out.symm, rfl⟩
    · have HE : Hid (metB 1 (decide (i = row)) (decide (j = col)) = false) := by show _ = _; rw [metB, if_pos rfl]; simpa using h1
      have e1 : (i != row) = true := by simp [h1]
      clear h1
      go_enter Tryz.func36, Tryz.ntmps36
      go_wp2
      go_ret
      exact ⟨ret_bool HE.out.symm, rfl⟩
  · have HE : Hid (metB 2 (decide (i = row)) (decide (j = col)) = (j == col)) := by show _ = _; rw [metB, if_neg (by decide), if_pos rfl]; rw [Bool.eq_iff_iff]; simp
    go_enter Tryz.func36, Tryz.ntmps36
    go_wp2
    go_ret
    exact ⟨ret_bool HE.out.symm, rfl⟩
  · by_cases h1 : i = row
    · have HE : Hid (metB 3 (decide (i = row)) (decide (j = col)) = (j == col)) := by show _ = _; rw [metB, if_neg (by decide), if_neg (by decide), if_pos rfl]; rw [Bool.eq_iff_iff]; simp [h1]
      have e1 : (i != row) = false := by simp [h1]
      clear h1
      go_enter Tryz.func36, Tryz.ntmps36
      go_wp2
      go_ret
      exact ⟨ret_bool HE.out.symm, rfl⟩
    · have HE : Hid (metB 3 (decide (i = row)) (decide (j = col)) = false) := by show _ = _; rw [metB, if_neg (by decide), if_neg (by decide), if_pos rfl]; simp [h1]
      have e1 : (i != row) = true := by simp [h1]
      clear h1
      go_enter Tryz.func36, Tryz.ntmps36
      go_wp2
      go_ret
      exact ⟨ret_bool HE.out.symm, rfl⟩
theorem dback_calls (k : Int) (i j : Nat) (hk : 0 ≤ k ∧ k ≤ 3) (hi : i ≤ 65536) (hj : j ≤ 65536) (w : World) : Calls Tryz.prog 69 #[.int .i64 k, .int .i64 (i : Int), .int .i64 (j : Int)] w fun e w' => e = .returned (.tuple #[.int .i64 ((i : Int) - (backB k).1), .int .i64 ((j : Int) - (backB k).2)]) ∧ w = w' := by
  have : k = 0 ∨ k = 1 ∨ k = 2 ∨ k = 3 := by omega
  clear hk
  have z1 : (i : Int) - 0 = i := Int.sub_zero _
  have z2 : (j : Int) - 0 = j := Int.sub_zero _
  rcases this with rfl | rfl | rfl | rfl
  · have HE : Hid ((i : Int) - (backB 0).1 = i ∧ (j : Int) - (backB 0).2 = j) := ⟨z1, z2⟩
    clear z1 z2
    go_enter Tryz.func69, Tryz.ntmps69
    go_wp2
    go_ret2
    exact ⟨by rw [HE.out.1, HE.out.2]; rfl, rfl⟩
  · clear z1 z2
    go_enter Tryz.func69, Tryz.ntmps69
    go_wp2
    go_ret2
    exact ⟨rfl, rfl⟩
  · have HE : Hid ((j : Int) - (backB 2).2 = j) := z2
    clear z1 z2
    go_enter Tryz.func69, Tryz.ntmps69
    go_wp2
    go_ret2
    exact ⟨by rw [HE.out]; rfl, rfl⟩
  · have HE : Hid ((i : Int) - (backB 3).1 = i) := z1
    clear z1 z2
    go_enter Tryz.func69, Tryz.ntmps69
    go_wp2
    go_ret2
    exact ⟨by rw [HE.out]; rfl, rfl⟩
section
variable {w0 w : World} {p : Dp} {c : Cd} {s : Ls} {sx sy se : Sl} {x y : List Int} {M : Ms} {st : Int}
theorem dplace_calls (h : Dt w0 w p c s sx sy x y se M st) (i j : Nat) (hi : i ≤ x.length) (hj : j ≤ y.length) (hxy : (x.length + 1) * (y.length + 1) ≤ 1048576) : Calls Tryz.prog 39 #[.pointer (some ⟨p.b, 0, none⟩), .int .i64 (i : Int), .int .i64 (j : Int)] w fun e w' => e = .returned (.int .i64 ((i * (y.length + 1) + j : Nat) : Int)) ∧ w = w' := by
  have c11 := h.cell 11 (v := .slice sy.a sy.n sy.c) rfl
  have hyn := h.hy.length
  have b4 : i * (y.length + 1) + j < (x.length + 1) * (y.length + 1) := by
    have : i * (y.length + 1) ≤ x.length * (y.length + 1) := Nat.mul_le_mul_right _ hi
    rw [Nat.add_mul x.length 1, Nat.one_mul]; omega
  have b5 : y.length + 1 ≤ (x.length + 1) * (y.length + 1) := Nat.le_mul_of_pos_left _ (by omega)
  obtain ⟨A, hA⟩ : ∃ A : Nat, i * (y.length + 1) = A := ⟨_, rfl⟩
  have e1 : (i : Int) * ((sy.n : Int) + 1) = (A : Int) := by rw [← hA, ← hyn]; simp
  rw [hA]
  have b6 : A + j < 1048576 := by omega
  have b7 : (sy.n : Int) ≤ 1048576 := by omega
  clear hA b4 b5 hyn hxy h
  go_enter Tryz.func39, Tryz.ntmps39
  go_wp2
  go_ret
  exact ⟨rfl, rfl⟩
def runsB (c : Cd) (X Y : Nat) (i j : Int) : Bool := decide (0 ≤ i) && decide (0 ≤ j) && decide (i ≤ X) && decide (j ≤ Y) && decide (c.lo ≤ j - i) && decide (j - i ≤ c.hi)
theorem runs_iff {c : Cd} {X Y : Nat} {i j : Int} : runsB c X Y i j = true ↔ 0 ≤ i ∧ 0 ≤ j ∧ i ≤ X ∧ j ≤ Y ∧ c.lo ≤ j - i ∧ j - i ≤ c.hi := by
  unfold runsB
  simp only [Bool.and_eq_true, decide_eq_true_eq]
  omega
set_option maxHeartbeats 1000000 in
theorem druns_calls (h : Dt w0 w p c s sx sy x y se M st) (i j : Int) (hi : -100000 ≤ i ∧ i ≤ 100000) (hj : -100000 ≤ j ∧ j ≤ 100000) : Calls Tryz.prog 17 #[.pointer (some ⟨p.b, 0, none⟩), .int .i64 i, .int .i64 j] w fun e w' => e = .returned (.bool (runsB c x.length y.length i j)) ∧ w = w' := by
  have c3 := h.cell 3 (v := .int .i64 c.lo) rfl
  have c4 := h.cell 4 (v := .int .i64 c.hi) rfl
  have c10 := h.cell 10 (v := .slice sx.a sx.n sx.c) rfl
  have c11 := h.cell 11 (v := .slice sy.a sy.n sy.c) rfl
  have hxn := h.hx.length
  have hyn := h.hy.length
  rw [hxn, hyn]
  obtain ⟨i1, i2⟩ := hi
  obtain ⟨j1, j2⟩ := hj
  obtain ⟨xa, xn, xc⟩ := sx
  obtain ⟨ya, yn, yc⟩ := sy
  simp only at c10 c11
  clear h hxn hyn
  simp only
  have HR : Hid (runsB c xn yn i j = (decide (0 ≤ i) && decide (0 ≤ j) && decide (i ≤ (xn : Int)) && decide (j ≤ (yn : Int)) && decide (c.lo ≤ j - i) && decide (j - i ≤ c.hi))) := rfl
  by_cases t0 : 0 ≤ i
  rotate_left
  · have d0 : decide (0 ≤ i) = false := by simpa using t0
    have HE : Hid (runsB c xn yn i j = false) := by show _ = _; rw [HR.out]; simp [d0]
    clear HR t0
    go_enter Tryz.func17, Tryz.ntmps17
    go_wp2
    go_ret
    exact ⟨ret_bool HE.out.symm, rfl⟩
  have d0 : decide (0 ≤ i) = true := by simpa using t0
  by_cases t1 : 0 ≤ j
  rotate_left
  · have d1 : decide (0 ≤ j) = false := by simpa using t1
    have HE : Hid (runsB c xn yn i j = false) := by show _ = _; rw [HR.out]; simp [d0, d1]
    clear HR t0 t1
    go_enter Tryz.func17, Tryz.ntmps17
    go_wp2
    go_ret
    exact ⟨ret_bool HE.out.symm, rfl⟩
  have d1 : decide (0 ≤ j) = true := by simpa using t1
  by_cases t2 : i ≤ (xn : Int)
  rotate_left
  · have d2 : decide (i ≤ (xn : Int)) = false := by simpa using t2
    have HE : Hid (runsB c xn yn i j = false) := by show _ = _; rw [HR.out]; simp [d0, d1, d2]
    clear HR t0 t1 t2
    go_enter Tryz.func17, Tryz.ntmps17
    go_wp2
    go_ret
    exact ⟨ret_bool HE.out.symm, rfl⟩
  have d2 : decide (i ≤ (xn : Int)) = true := by simpa using t2
  by_cases t3 : j ≤ (yn : Int)
  rotate_left
  · have d3 : decide (j ≤ (yn : Int)) = false := by simpa using t3
    have HE : Hid (runsB c xn yn i j = false) := by show _ = _; rw [HR.out]; simp [d0, d1, d2, d3]
    clear HR t0 t1 t2 t3
    go_enter Tryz.func17, Tryz.ntmps17
    go_wp2
    go_ret
    exact ⟨ret_bool HE.out.symm, rfl⟩
  have d3 : decide (j ≤ (yn : Int)) = true := by simpa using t3
  by_cases t4 : c.lo ≤ j - i
  rotate_left
  · have d4 : decide (c.lo ≤ j - i) = false := by simpa using t4
    have HE : Hid (runsB c xn yn i j = false) := by show _ = _; rw [HR.out]; simp [d0, d1, d2, d3, d4]
    clear HR t0 t1 t2 t3 t4
    go_enter Tryz.func17, Tryz.ntmps17
    go_wp2
    go_ret
    exact ⟨ret_bool HE.out.symm, rfl⟩
  have d4 : decide (c.lo ≤ j - i) = true := by simpa using t4
  by_cases t5 : j - i ≤ c.hi
  rotate_left
  · have d5 : decide (j - i ≤ c.hi) = false := by simpa using t5
    have HE : Hid (runsB c xn yn i j = false) := by show _ = _; rw [HR.out]; simp [d0, d1, d2, d3, d4, d5]
    clear HR t0 t1 t2 t3 t4 t5
    go_enter Tryz.func17, Tryz.ntmps17
    go_wp2
    go_ret
    exact ⟨ret_bool HE.out.symm, rfl⟩
  have d5 : decide (j - i ≤ c.hi) = true := by simpa using t5
  have HE : Hid (runsB c xn yn i j = true) := by show _ = _; rw [HR.out]; simp [d0, d1, d2, d3, d4, d5]
  clear HR t0 t1 t2 t3 t4 t5
  go_enter Tryz.func17, Tryz.ntmps17
  go_wp2
  go_ret
  exact ⟨ret_bool HE.out.symm, rfl⟩
end
theorem dnums_calls (L : Int) (ao : Option Addr) (n cap : Nat) (l : List Int) (w : World) (h : IntsAt w ao n l) : Calls Tryz.prog 16 #[.slice ao n cap, .int .i64 L] w fun e w' => e = .returned (.bool (letB L l)) ∧ w = w' := by
  have hl := h.length
  have hs := h.short
  unfold maxLen at hs
  have HI : Hid (IntsAt w ao n l) := h
  have HL : Hid (l.length = n) := hl
  have HT : Hid (letB L (l.take 0) = true) := by show letB L (l.take 0) = true; rw [List.take_zero]; rfl
  clear h hl
  go_enter Tryz.func16, Tryz.ntmps16
  go_wp2
  go_loop [4, 5] (fun v4 kv => ∃ k : Nat, k ≤ n ∧ v4 = .bool false ∧ kv = .int .i64 k ∧ Hid (letB L (l.take k) = true)) (fun _ kv => n - (intOf kv).toNat)
  case atStart => exact ⟨0, Nat.zero_le _, rfl, rfl, HT.out⟩
  case round =>
    clear HT
    obtain ⟨k, hk, rfl, rfl, HP⟩ := hrel
    by_cases hlt : k < n
    · have hd : decide ((k : Int) < (n : Int)) = true := decide_eq_true (by omega)
      obtain ⟨b, off, e, hc⟩ := HI.out.cells (by omega)
      have e0 := hc k hlt
      subst e
      have HN : Hid (letB L (l.take (k + 1)) = !(decide (l.getD k 0 < 0) || decide (L ≤ l.getD k 0))) := by
        show _ = _
        have hkl : k < l.length := by rw [HL.out]; exact hlt
        have h1 := HP.out
        unfold letB at h1 ⊢
        rw [List.take_add_one, List.getElem?_eq_getElem hkl, List.all_append, h1, List.getD_eq_getElem?_getD, List.getElem?_eq_getElem hkl]
        simp
      have HW : Hid (letB L l = true → letB L (l.take (k + 1)) = true) := fun h1 => by
        unfold letB at h1 ⊢
        rw [List.all_eq_true] at h1 ⊢
        exact fun z hz => h1 z (List.mem_of_mem_take hz)
      generalize l.getD k 0 = z at *
      clear hc
      by_cases t0 : z < 0
      · have d0 : decide (z < 0) = true := by simpa using t0
        have HE : Hid (letB L l = false) := by
          show letB L l = false
          cases hb : letB L l with
          | false => rfl
          | true => have := HW.out hb; rw [HN.out, d0] at this; cases this
        clear t0 HW HN HP
        go_wp2
        go_ret
        exact ⟨ret_bool HE.out.symm, rfl⟩
      have d0 : decide (z < 0) = false := by simpa using t0
      by_cases t1 : L ≤ z
      · have d1 : decide (L ≤ z) = true := by simpa using t1
        have HE : Hid (letB L l = false) := by
          show letB L l = false
          cases hb : letB L l with
          | false => rfl
          | true => have := HW.out hb; rw [HN.out, d0, d1] at this; cases this
        clear t0 t1 HW HN HP
        go_wp2
        go_ret
        exact ⟨ret_bool HE.out.symm, rfl⟩
      have d1 : decide (L ≤ z) = false := by simpa using t1
      have HE : Hid (letB L (l.take (k + 1)) = true) := by show _ = _; rw [HN.out, d0, d1]; rfl
      clear t0 t1 HW HN HP
      go_wp2
      go_round
      case rel => exact ⟨k + 1, by omega, rfl, by go_num, HE⟩
      case measure => simp [intOf]; omega
    · have hd : decide ((k : Int) < (n : Int)) = false := decide_eq_false (by omega)
      have HE : Hid (letB L l = true) := by
        have := HP.out
        rw [List.take_of_length_le (by rw [HL.out]; omega)] at this
        exact this
      clear HP
      go_wp2
      go_ret
      exact ⟨ret_bool HE.out.symm, rfl⟩

end Go.Proofs.YtnkfibahkmmnpaaGreat
namespace Go.Proofs.YtnkfibahkmmnpaaGreat
open Go.RowKit

def dcA (c : Ct) : Array Value := #[.bool c.has, .int .i64 c.num, .int .i64 c.mask]
theorem ret_agg2 {a b : Array Value} (h : a = b) : Ending.returned (.agg a) = .returned (.agg b) := by rw [h]
section
variable {w0 w : World} {p : Dp} {c : Cd} {s : Ls} {sx sy se : Sl} {x y : List Int} {M : Ms} {st : Int}
theorem Dt.slot (h : Dt w0 w p c s sx sy x y se M st) {q : Nat} (hq : q < c.planes.toNat) {k m : Nat} (hk : k < (x.length + 1) * (y.length + 1)) (hm : m < 3) : w.cell? ⟨p.rb q, k * 3 + m, none⟩ = some (dcV (M.slots (k * c.planes.toNat + q)) m) :=
  cell_block (h.row q hq) _ _ (dlC_get _ _ hk hm)
theorem Dt.orow (h : Dt w0 w p c s sx sy x y se M st) {q : Nat} (hq : q < c.planes.toNat) : w.cell? ⟨p.ob, q, none⟩ = some (.slice (some ⟨p.rb q, 0, none⟩) ((x.length + 1) * (y.length + 1)) ((x.length + 1) * (y.length + 1))) := cell_block h.out q _ (h.oq q hq)
theorem at_lt {X Y u v : Nat} (hu : u ≤ X) (hv : v ≤ Y) : u * (Y + 1) + v < (X + 1) * (Y + 1) := by
  have : u * (Y + 1) ≤ X * (Y + 1) := Nat.mul_le_mul_right _ hu
  rw [Nat.add_mul X 1, Nat.one_mul]; omega
set_option maxRecDepth 10000 in
set_option maxHeartbeats 1000000 in
theorem dload_calls (h : Dt w0 w p c s sx sy x y se M st) (hn : Nrm c x.length y.length M) (hxy : (x.length + 1) * (y.length + 1) ≤ 1048576) (q : Nat) (hq : q < c.planes.toNat) (k : Int) (hk : 0 ≤ k ∧ k ≤ 3) (i j : Nat) (hi : i ≤ x.length) (hj : j ≤ y.length) (hx6 : x.length ≤ 65536) (hy6 : y.length ≤ 65536) :
    Calls Tryz.prog 37 #[.pointer (some ⟨p.b, 0, none⟩), .int .i64 (q : Int), .int .i64 k, .int .i64 (i : Int), .int .i64 (j : Int)] w fun e w' => e = .returned (.agg (dcA ⟨(atB c.planes.toNat x.length y.length M.slots q ((i : Int) - (backB k).1) ((j : Int) - (backB k).2)).has, 0, (atB c.planes.toNat x.length y.length M.slots q ((i : Int) - (backB k).1) ((j : Int) - (backB k).2)).num⟩)) ∧ Below w.heap.size w w' := by
  have hres : Tryz.f37.results = #[.cell 10 103] := by kernel_rfl
  have HB : Hid (∀ W, Calls Tryz.prog 69 #[.int .i64 k, .int .i64 (i : Int), .int .i64 (j : Int)] W fun e w' => e = .returned (.tuple #[.int .i64 ((i : Int) - (backB k).1), .int .i64 ((j : Int) - (backB k).2)]) ∧ W = w') := fun W => dback_calls k i j hk (by omega) (by omega) W
  obtain ⟨u, hu⟩ : ∃ u, (i : Int) - (backB k).1 = u := ⟨_, rfl⟩
  obtain ⟨v, hv⟩ : ∃ v, (j : Int) - (backB k).2 = v := ⟨_, rfl⟩
  have hub : -100000 ≤ u ∧ u ≤ 100000 ∧ -100000 ≤ v ∧ v ≤ 100000 := by
    have : 0 ≤ (backB k).1 ∧ (backB k).1 ≤ 1 ∧ 0 ≤ (backB k).2 ∧ (backB k).2 ≤ 1 := by
      have : k = 0 ∨ k = 1 ∨ k = 2 ∨ k = 3 := by omega
      rcases this with rfl | rfl | rfl | rfl <;> decide
    omega
  rw [hu, hv] at HB ⊢
  have HW : Hid (Dt w0 (w.alloc (.cells #[.bool false, .int .i64 0, .int .i64 0] 103)) p c s sx sy x y se M st) := h.next (below_new _)
  have HR : Hid (Calls Tryz.prog 17 #[.pointer (some ⟨p.b, 0, none⟩), .int .i64 u, .int .i64 v] (w.alloc (.cells #[.bool false, .int .i64 0, .int .i64 0] 103)) fun e w' => e = .returned (.bool (runsB c x.length y.length u v)) ∧ (w.alloc (.cells #[.bool false, .int .i64 0, .int .i64 0] 103)) = w') := druns_calls HW.out u v ⟨hub.1, hub.2.1⟩ ⟨hub.2.2.1, hub.2.2.2⟩
  have hlb := lt_block h.box
  have hlo := lt_block h.out
  have hlr := lt_block (h.row q hq)
  cases hr : runsB c x.length y.length u v with
  | false =>
    have HE : Hid (atB c.planes.toNat x.length y.length M.slots q u v = ct0) := hn.at0 _ _ _ (fun hh => by
      have := (runs_iff (c := c) (X := x.length) (Y := y.length) (i := u) (j := v)).2 ⟨hh.1, hh.2.1, hh.2.2.1, hh.2.2.2.1, hh.2.2.2.2⟩
      rw [hr] at this; cases this)
    rw [hr] at HR
    clear h hn hu hv hr
    go_enter Tryz.func37, Tryz.ntmps37
    go_wp2_with fail
    refine (HB.out _).mono ?_
    rintro e w1 ⟨rfl, rfl⟩
    go_wp2_with fail
    refine HR.out.mono ?_
    rintro e w1 ⟨rfl, rfl⟩
    go_wp2
    refine bodyPost_ret (v := .agg #[.bool false, .int .i64 0, .int .i64 0]) ?_ rfl ⟨ret_agg2 (by rw [HE.out]; rfl), below_new _⟩
    simp only [results, hres]
    go_simp
  | true =>
    obtain ⟨r1, r2, r3, r4, _, _⟩ := runs_iff.1 hr
    obtain ⟨un, rfl⟩ := Int.eq_ofNat_of_zero_le r1
    obtain ⟨vn, rfl⟩ := Int.eq_ofNat_of_zero_le r2
    have hun : un ≤ x.length := by omega
    have hvn : vn ≤ y.length := by omega
    have HE : Hid (atB c.planes.toNat x.length y.length M.slots q un vn = M.slots ((un * (y.length + 1) + vn) * c.planes.toNat + q)) := atB_in hq hun hvn
    have hal := at_lt hun hvn
    have HP : Hid (Calls Tryz.prog 39 #[.pointer (some ⟨p.b, 0, none⟩), .int .i64 (un : Int), .int .i64 (vn : Int)] (w.alloc (.cells #[.bool false, .int .i64 0, .int .i64 0] 103)) fun e w' => e = .returned (.int .i64 ((un * (y.length + 1) + vn : Nat) : Int)) ∧ (w.alloc (.cells #[.bool false, .int .i64 0, .int .i64 0] 103)) = w') := dplace_calls HW.out un vn hun hvn hxy
    rw [hr] at HR
    have c12 := h.cell 12 (v := .slice (some ⟨p.ob, 0, none⟩) c.planes.toNat p.oc) rfl
    have co := h.orow hq
    generalize un * (y.length + 1) + vn = at1 at *
    have s0 : w.cell? ⟨p.rb q, at1 * 3, none⟩ = some (.bool (M.slots (at1 * c.planes.toNat + q)).has) := h.slot hq hal (m := 0) (by omega)
    have s1 : w.cell? ⟨p.rb q, at1 * 3 + 1, none⟩ = some (.int .i64 (M.slots (at1 * c.planes.toNat + q)).num) := h.slot hq hal (m := 1) (by omega)
    have s2 : w.cell? ⟨p.rb q, at1 * 3 + 2, none⟩ = some (.int .i64 (M.slots (at1 * c.planes.toNat + q)).mask) := h.slot hq hal (m := 2) (by omega)
    rw [HE.out]
    generalize M.slots (at1 * c.planes.toNat + q) = f at *
    generalize (x.length + 1) * (y.length + 1) = n at *
    generalize c.planes.toNat = P at *
    have hqP : (q : Int) < (P : Int) := by omega
    have hat : (at1 : Int) < (n : Int) := by omega
    clear h hn hu hv hr HE
    go_enter Tryz.func37, Tryz.ntmps37
    go_wp2_with fail
    refine (HB.out _).mono ?_
    rintro e w1 ⟨rfl, rfl⟩
    go_wp2_with fail
    refine HR.out.mono ?_
    rintro e w1 ⟨rfl, rfl⟩
    go_wp2_with fail
    refine HP.out.mono ?_
    rintro e w1 ⟨rfl, rfl⟩
    go_wp2
    refine bodyPost_ret (v := .agg #[.bool f.has, .int .i64 f.num, .int .i64 0]) ?_ rfl ⟨rfl, ?_⟩
    · simp only [results, hres]
      go_simp
    · exact (below_new _).alloc (by simp) _
set_option maxRecDepth 10000 in
set_option maxHeartbeats 1000000 in
theorem dat_calls (h : Dt w0 w p c s sx sy x y se M st) (hn : Nrm c x.length y.length M) (hxy : (x.length + 1) * (y.length + 1) ≤ 1048576) (hcP : c.planes = (c.planes.toNat : Int)) (q i j : Int) (hi : -100000 ≤ i ∧ i ≤ 100000) (hj : -100000 ≤ j ∧ j ≤ 100000) :
    Calls Tryz.prog 45 #[.pointer (some ⟨p.b, 0, none⟩), .int .i64 q, .int .i64 i, .int .i64 j] w fun e w' => e = .returned (.agg (dcA (atB c.planes.toNat x.length y.length M.slots q i j))) ∧ Below w.heap.size w w' := by
  have hres : Tryz.f45.results = #[.cell 8 103] := by kernel_rfl
  have HW : Hid (Dt w0 (w.alloc (.cells #[.bool false, .int .i64 0, .int .i64 0] 103)) p c s sx sy x y se M st) := h.next (below_new _)
  have HR : Hid (Calls Tryz.prog 17 #[.pointer (some ⟨p.b, 0, none⟩), .int .i64 i, .int .i64 j] (w.alloc (.cells #[.bool false, .int .i64 0, .int .i64 0] 103)) fun e w' => e = .returned (.bool (runsB c x.length y.length i j)) ∧ (w.alloc (.cells #[.bool false, .int .i64 0, .int .i64 0] 103)) = w') := druns_calls HW.out i j hi hj
  have hlb := lt_block h.box
  have hlo := lt_block h.out
  have c1 := h.cell 1 (v := .int .i64 c.planes) rfl
  have c12 := h.cell 12 (v := .slice (some ⟨p.ob, 0, none⟩) c.planes.toNat p.oc) rfl
  rw [hcP] at c1
  cases hr : runsB c x.length y.length i j with
  | false =>
    have HE : Hid (atB c.planes.toNat x.length y.length M.slots q i j = ct0) := hn.at0 _ _ _ (fun hh => by
      have := (runs_iff (c := c) (X := x.length) (Y := y.length) (i := i) (j := j)).2 ⟨hh.1, hh.2.1, hh.2.2.1, hh.2.2.2.1, hh.2.2.2.2⟩
      rw [hr] at this; cases this)
    rw [hr] at HR
    clear h hn hr c1 c12
    go_enter Tryz.func45, Tryz.ntmps45
    go_wp2_with fail
    refine HR.out.mono ?_
    rintro e w1 ⟨rfl, rfl⟩
    go_wp2
    refine bodyPost_ret (v := .agg #[.bool false, .int .i64 0, .int .i64 0]) ?_ rfl ⟨ret_agg2 (by rw [HE.out]; rfl), below_new _⟩
    simp only [results, hres]
    go_simp
  | true =>
    obtain ⟨r1, r2, r3, r4, _, _⟩ := runs_iff.1 hr
    obtain ⟨un, rfl⟩ := Int.eq_ofNat_of_zero_le r1
    obtain ⟨vn, rfl⟩ := Int.eq_ofNat_of_zero_le r2
    have hun : un ≤ x.length := by omega
    have hvn : vn ≤ y.length := by omega
    rw [hr] at HR
    by_cases hq0 : q < 0
    · have d0 : decide (q < 0) = true := by simpa using hq0
      have HE : Hid (atB c.planes.toNat x.length y.length M.slots q un vn = ct0) := at_off (by omega)
      clear h hn hr c12 hq0
      go_enter Tryz.func45, Tryz.ntmps45
      go_wp2_with fail
      refine HR.out.mono ?_
      rintro e w1 ⟨rfl, rfl⟩
      go_wp2
      refine bodyPost_ret (v := .agg #[.bool false, .int .i64 0, .int .i64 0]) ?_ rfl ⟨ret_agg2 (by rw [HE.out]; rfl), below_new _⟩
      simp only [results, hres]
      go_simp
    have d0 : decide (q < 0) = false := by simpa using hq0
    by_cases hq1 : (c.planes.toNat : Int) ≤ q
    · have d1 : decide ((c.planes.toNat : Int) ≤ q) = true := by simpa using hq1
      have HE : Hid (atB c.planes.toNat x.length y.length M.slots q un vn = ct0) := at_off (by omega)
      generalize c.planes.toNat = P at *
      clear h hn hr c12 hq0 hq1
      go_enter Tryz.func45, Tryz.ntmps45
      go_wp2_with fail
      refine HR.out.mono ?_
      rintro e w1 ⟨rfl, rfl⟩
      go_wp2
      refine bodyPost_ret (v := .agg #[.bool false, .int .i64 0, .int .i64 0]) ?_ rfl ⟨ret_agg2 (by rw [HE.out]; rfl), below_new _⟩
      simp only [results, hres]
      go_simp
    have d1 : decide ((c.planes.toNat : Int) ≤ q) = false := by simpa using hq1
    obtain ⟨qn, rfl⟩ := Int.eq_ofNat_of_zero_le (by omega : 0 ≤ q)
    have hq : qn < c.planes.toNat := by omega
    have hlr := lt_block (h.row qn hq)
    have HE : Hid (atB c.planes.toNat x.length y.length M.slots qn un vn = M.slots ((un * (y.length + 1) + vn) * c.planes.toNat + qn)) := atB_in hq hun hvn
    have hal := at_lt hun hvn
    have HP : Hid (Calls Tryz.prog 39 #[.pointer (some ⟨p.b, 0, none⟩), .int .i64 (un : Int), .int .i64 (vn : Int)] (w.alloc (.cells #[.bool false, .int .i64 0, .int .i64 0] 103)) fun e w' => e = .returned (.int .i64 ((un * (y.length + 1) + vn : Nat) : Int)) ∧ (w.alloc (.cells #[.bool false, .int .i64 0, .int .i64 0] 103)) = w') := dplace_calls HW.out un vn hun hvn hxy
    have co := h.orow hq
    generalize un * (y.length + 1) + vn = at1 at *
    have s0 : w.cell? ⟨p.rb qn, at1 * 3, none⟩ = some (.bool (M.slots (at1 * c.planes.toNat + qn)).has) := h.slot hq hal (m := 0) (by omega)
    have s1 : w.cell? ⟨p.rb qn, at1 * 3 + 1, none⟩ = some (.int .i64 (M.slots (at1 * c.planes.toNat + qn)).num) := h.slot hq hal (m := 1) (by omega)
    have s2 : w.cell? ⟨p.rb qn, at1 * 3 + 2, none⟩ = some (.int .i64 (M.slots (at1 * c.planes.toNat + qn)).mask) := h.slot hq hal (m := 2) (by omega)
    rw [HE.out]
    generalize M.slots (at1 * c.planes.toNat + qn) = f at *
    generalize (x.length + 1) * (y.length + 1) = n at *
    generalize c.planes.toNat = P at *
    have hqP : (qn : Int) < (P : Int) := by omega
    have hat : (at1 : Int) < (n : Int) := by omega
    clear h hn hr HE hq0 hq1
    go_enter Tryz.func45, Tryz.ntmps45
    go_wp2_with fail
    refine HR.out.mono ?_
    rintro e w1 ⟨rfl, rfl⟩
    go_wp2_with fail
    refine HP.out.mono ?_
    rintro e w1 ⟨rfl, rfl⟩
    go_wp2
    refine bodyPost_ret (v := .agg #[.bool f.has, .int .i64 f.num, .int .i64 f.mask]) ?_ rfl ⟨rfl, below_new _⟩
    simp only [results, hres]
    go_simp
end

end Go.Proofs.YtnkfibahkmmnpaaGreat
