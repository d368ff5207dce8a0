/-
  The leaves of paths: cells, where a path may begin and end, columns.
-/
import Derived.Test.YtegndeefddlccaaBdM
import Derived.Test.YtegndeefddlccaaPhP
import Derived.WalkKit
namespace Go.Proofs.Ytegndeefddlccaa
open Go.RowKit

/-- The cells of a field. -/
def fdCells (m : Md) (sa : Option Addr) (sn sc : Nat) (ga : Option Addr) (gn gc : Nat) (xa : Option Addr) (xn xc : Nat) (ya : Option Addr) (yn yc : Nat) : Array Value :=
  #[.int .i64 m.letters, .slice sa sn sc, .slice ga gn gc, .int .i64 m.mode, .bool m.banded, .int .i64 m.lo, .int .i64 m.hi, .int .i64 m.front, .int .i64 m.back, .int .i64 m.least, .slice xa xn xc, .slice ya yn yc]
theorem bl1 (w : World) (o : Obj) : Below w.heap.size w (w.alloc o) := (Below.refl _ _).alloc (Nat.le_refl _) _
theorem dec_f {p : Prop} [Decidable p] (h : ¬ p) : decide p = false := decide_eq_false h
theorem dec_t {p : Prop} [Decidable p] (h : p) : decide p = true := decide_eq_true h
theorem u8_int (a c : UInt8) : ((a.toNat : Int) == (c.toNat : Int)) = (a == c) := by
  rw [Bool.eq_iff_iff]; simp only [beq_iff_eq]; constructor
  · intro h; exact UInt8.toNat_inj.1 (by omega)
  · intro h; rw [h]

theorem hasB_of {m : Md} {nx ny : Nat} {i j : Int} (b : Bool) (h : ((0 ≤ i ∧ i ≤ nx ∧ 0 ≤ j ∧ j ≤ ny) ∧ (m.banded = false ∨ (m.lo ≤ j - i ∧ j - i ≤ m.hi))) ↔ b = true) : hasB m nx ny i j = b := by
  rw [Bool.eq_iff_iff, ← h]; simp [hasB]
set_option maxHeartbeats 1000000 in
theorem has_calls (m : Md) (sa : Option Addr) (sn sc : Nat) (ga : Option Addr) (gn gc : Nat) (xa : Option Addr) (xn xc : Nat) (ya : Option Addr) (yn yc : Nat) (i j : Int) (w : World) (hx : xn ≤ maxLen) (hy : yn ≤ maxLen) :
    Calls Try.prog 45 #[.agg (fdCells m sa sn sc ga gn gc xa xn xc ya yn yc), .int .i64 i, .int .i64 j] w fun e w' => e = .returned (.bool (hasB m xn yn i j)) ∧ Below w.heap.size w w' := by
  have H : Hid (∀ b : Bool, (((0 ≤ i ∧ i ≤ xn ∧ 0 ≤ j ∧ j ≤ yn) ∧ (m.banded = false ∨ (m.lo ≤ j - i ∧ j - i ≤ m.hi))) ↔ b = true) → hasB m xn yn i j = b) := fun b h => hasB_of b h
  unfold maxLen at hx hy
  generalize hasB m xn yn i j = r at *
  obtain ⟨L, su, gp, mo, bd, lo, hi, fr, bk, le⟩ := m
  unfold fdCells
  simp only at H ⊢
  by_cases h1 : i < 0
  · skip
    go_enter Try.func45, Try.ntmps45
    go_wp2
    go_ret
    exact ⟨ret_bool (H.out false (by simp; omega)).symm, bl1 _ _⟩
  · skip
    by_cases h2 : (xn : Int) < i
    · skip
      go_enter Try.func45, Try.ntmps45
      go_wp2
      go_ret
      exact ⟨ret_bool (H.out false (by simp; omega)).symm, bl1 _ _⟩
    · skip
      by_cases h3 : j < 0
      · skip
        go_enter Try.func45, Try.ntmps45
        go_wp2
        go_ret
        exact ⟨ret_bool (H.out false (by simp; omega)).symm, bl1 _ _⟩
      · skip
        by_cases h4 : (yn : Int) < j
        · skip
          go_enter Try.func45, Try.ntmps45
          go_wp2
          go_ret
          exact ⟨ret_bool (H.out false (by simp; omega)).symm, bl1 _ _⟩
        · skip
          by_cases h5 : bd = true
          · skip
            subst h5
            by_cases h6 : lo ≤ j - i
            · skip
              have h6b : decide (lo ≤ j - i) = true := dec_t h6
              go_enter Try.func45, Try.ntmps45
              go_wp2
              go_ret
              exact ⟨ret_bool (H.out (decide (j - i ≤ hi)) (by rw [decide_eq_true_iff]; simp; omega)).symm, bl1 _ _⟩
            · skip
              have h6b : decide (lo ≤ j - i) = false := dec_f h6
              go_enter Try.func45, Try.ntmps45
              go_wp2
              go_ret
              exact ⟨ret_bool (H.out false (by simp; omega)).symm, bl1 _ _⟩
          · skip
            have h5f : bd = false := by simpa using h5
            subst h5f
            go_enter Try.func45, Try.ntmps45
            go_wp2
            go_ret
            exact ⟨ret_bool (H.out true (by simp; omega)).symm, bl1 _ _⟩

theorem beginB_2 {m : Md} {i j : Int} (h : m.mode = 2) : beginB m i j = (j == 0) := by simp [beginB, h]; rw [Bool.eq_iff_iff]; simp
theorem beginB_3 {m : Md} {i j : Int} (h : m.mode = 3) : beginB m i j = true := by simp [beginB, h]
theorem beginB_0 {m : Md} {i j : Int} (h : m.mode ≠ 2) (h3 : m.mode ≠ 3) : beginB m i j = decide (i = 0 ∧ j = 0) := by simp [beginB, h, h3]
theorem endB_1 {m : Md} {nx ny : Nat} {i j : Int} (h : m.mode = 1) : endB m nx ny i j = decide (i = nx ∧ j = ny) := by simp [endB, h]
theorem endB_2 {m : Md} {nx ny : Nat} {i j : Int} (h : m.mode = 2) : endB m nx ny i j = (j == ny) := by simp [endB, h]; rw [Bool.eq_iff_iff]; simp
theorem endB_0 {m : Md} {nx ny : Nat} {i j : Int} (h : m.mode ≠ 1) (h3 : m.mode ≠ 2) : endB m nx ny i j = true := by simp [endB, h, h3]
theorem beq_f {a b : Int} (h : a ≠ b) : (a == b) = false := by simpa using h
set_option maxHeartbeats 1000000 in
theorem mayBegin_calls (m : Md) (sa : Option Addr) (sn sc : Nat) (ga : Option Addr) (gn gc : Nat) (xa : Option Addr) (xn xc : Nat) (ya : Option Addr) (yn yc : Nat) (i j : Int) (w : World) :
    Calls Try.prog 46 #[.agg (fdCells m sa sn sc ga gn gc xa xn xc ya yn yc), .int .i64 i, .int .i64 j] w fun e w' => e = .returned (.bool (beginB m i j)) ∧ Below w.heap.size w w' := by
  have H : Hid ((m.mode = 2 → beginB m i j = (j == 0)) ∧ (m.mode = 3 → beginB m i j = true) ∧ (m.mode ≠ 2 → m.mode ≠ 3 → beginB m i j = decide (i = 0 ∧ j = 0))) := ⟨beginB_2, beginB_3, beginB_0⟩
  generalize beginB m i j = r at *
  generalize hmo : m.mode = mo at H
  obtain ⟨L, su, gp, mo', bd, lo, hi, fr, bk, le⟩ := m
  unfold fdCells
  simp only at hmo ⊢
  subst hmo
  by_cases h2 : mo' = 2
  · skip
    subst h2
    go_enter Try.func46, Try.ntmps46
    go_wp2
    go_ret
    exact ⟨ret_bool (H.out.1 (by first | rfl | trivial)).symm, bl1 _ _⟩
  · skip
    have h2b := beq_f h2
    by_cases h3 : mo' = 3
    · skip
      subst h3
      go_enter Try.func46, Try.ntmps46
      go_wp2
      go_ret
      exact ⟨ret_bool (H.out.2.1 (by first | rfl | trivial)).symm, bl1 _ _⟩
    · skip
      have h3b := beq_f h3
      by_cases h4 : i = 0
      · skip
        subst h4
        go_enter Try.func46, Try.ntmps46
        go_wp2
        go_ret
        exact ⟨ret_bool (by rw [H.out.2.2 h2 h3]; simp; rw [Bool.eq_iff_iff]; simp), bl1 _ _⟩
      · skip
        have h4b := beq_f h4
        go_enter Try.func46, Try.ntmps46
        go_wp2
        go_ret
        exact ⟨ret_bool (by rw [H.out.2.2 h2 h3]; simp [h4]), bl1 _ _⟩

set_option maxHeartbeats 1000000 in
theorem beginsR_calls (m : Md) (sa : Option Addr) (sn sc : Nat) (ga : Option Addr) (gn gc : Nat) (i j : Int) (w : World) :
    Calls Try.prog 35 #[.agg (mdCells m sa sn sc ga gn gc), .int .i64 i, .int .i64 j] w fun e w' => e = .returned (.bool (beginB m i j)) ∧ Below w.heap.size w w' := by
  have H : Hid ((m.mode = 2 → beginB m i j = (j == 0)) ∧ (m.mode = 3 → beginB m i j = true) ∧ (m.mode ≠ 2 → m.mode ≠ 3 → beginB m i j = decide (i = 0 ∧ j = 0))) := ⟨beginB_2, beginB_3, beginB_0⟩
  generalize beginB m i j = r at *
  generalize hmo : m.mode = mo at H
  obtain ⟨L, su, gp, mo', bd, lo, hi, fr, bk, le⟩ := m
  unfold mdCells
  simp only at hmo ⊢
  subst hmo
  by_cases h2 : mo' = 2
  · skip
    subst h2
    go_enter Try.func35, Try.ntmps35
    go_wp2
    go_ret
    exact ⟨ret_bool (H.out.1 (by first | rfl | trivial)).symm, bl1 _ _⟩
  · skip
    have h2b := beq_f h2
    by_cases h3 : mo' = 3
    · skip
      subst h3
      go_enter Try.func35, Try.ntmps35
      go_wp2
      go_ret
      exact ⟨ret_bool (H.out.2.1 (by first | rfl | trivial)).symm, bl1 _ _⟩
    · skip
      have h3b := beq_f h3
      by_cases h4 : i = 0
      · skip
        subst h4
        go_enter Try.func35, Try.ntmps35
        go_wp2
        go_ret
        exact ⟨ret_bool (by rw [H.out.2.2 h2 h3]; simp; rw [Bool.eq_iff_iff]; simp), bl1 _ _⟩
      · skip
        have h4b := beq_f h4
        go_enter Try.func35, Try.ntmps35
        go_wp2
        go_ret
        exact ⟨ret_bool (by rw [H.out.2.2 h2 h3]; simp [h4]), bl1 _ _⟩

set_option maxHeartbeats 1000000 in
theorem mayEnd_calls (m : Md) (sa : Option Addr) (sn sc : Nat) (ga : Option Addr) (gn gc : Nat) (xa : Option Addr) (xn xc : Nat) (ya : Option Addr) (yn yc : Nat) (i j : Int) (w : World) :
    Calls Try.prog 49 #[.agg (fdCells m sa sn sc ga gn gc xa xn xc ya yn yc), .int .i64 i, .int .i64 j] w fun e w' => e = .returned (.bool (endB m xn yn i j)) ∧ Below w.heap.size w w' := by
  have H : Hid ((m.mode = 1 → endB m xn yn i j = decide (i = xn ∧ j = yn)) ∧ (m.mode = 2 → endB m xn yn i j = (j == (yn : Int))) ∧ (m.mode ≠ 1 → m.mode ≠ 2 → endB m xn yn i j = true)) := ⟨endB_1, endB_2, endB_0⟩
  generalize endB m xn yn i j = r at *
  generalize hmo : m.mode = mo at H
  obtain ⟨L, su, gp, mo', bd, lo, hi, fr, bk, le⟩ := m
  unfold fdCells
  simp only at hmo ⊢
  subst hmo
  by_cases h2 : mo' = 1
  · skip
    subst h2
    by_cases h4 : i = (xn : Int)
    · skip
      subst h4
      go_enter Try.func49, Try.ntmps49
      go_wp2
      go_ret
      exact ⟨ret_bool (by rw [H.out.1 (by first | rfl | trivial)]; simp; rw [Bool.eq_iff_iff]; simp), bl1 _ _⟩
    · skip
      have h4b := beq_f h4
      go_enter Try.func49, Try.ntmps49
      go_wp2
      go_ret
      exact ⟨ret_bool (by rw [H.out.1 (by first | rfl | trivial)]; simp [h4]), bl1 _ _⟩
  · skip
    have h2b := beq_f h2
    by_cases h3 : mo' = 2
    · skip
      subst h3
      go_enter Try.func49, Try.ntmps49
      go_wp2
      go_ret
      exact ⟨ret_bool (H.out.2.1 (by first | rfl | trivial)).symm, bl1 _ _⟩
    · skip
      have h3b := beq_f h3
      go_enter Try.func49, Try.ntmps49
      go_wp2
      go_ret
      exact ⟨ret_bool (H.out.2.2 h2 h3).symm, bl1 _ _⟩

set_option maxHeartbeats 1000000 in
theorem endsR_calls (m : Md) (sa : Option Addr) (sn sc : Nat) (ga : Option Addr) (gn gc : Nat) (xn yn : Nat) (i j : Int) (w : World) :
    Calls Try.prog 55 #[.agg (mdCells m sa sn sc ga gn gc), .int .i64 xn, .int .i64 yn, .int .i64 i, .int .i64 j] w fun e w' => e = .returned (.bool (endB m xn yn i j)) ∧ Below w.heap.size w w' := by
  have H : Hid ((m.mode = 1 → endB m xn yn i j = decide (i = xn ∧ j = yn)) ∧ (m.mode = 2 → endB m xn yn i j = (j == (yn : Int))) ∧ (m.mode ≠ 1 → m.mode ≠ 2 → endB m xn yn i j = true)) := ⟨endB_1, endB_2, endB_0⟩
  generalize endB m xn yn i j = r at *
  generalize hmo : m.mode = mo at H
  obtain ⟨L, su, gp, mo', bd, lo, hi, fr, bk, le⟩ := m
  unfold mdCells
  simp only at hmo ⊢
  subst hmo
  by_cases h2 : mo' = 1
  · skip
    subst h2
    by_cases h4 : i = (xn : Int)
    · skip
      subst h4
      go_enter Try.func55, Try.ntmps55
      go_wp2
      go_ret
      exact ⟨ret_bool (by rw [H.out.1 (by first | rfl | trivial)]; simp; rw [Bool.eq_iff_iff]; simp), bl1 _ _⟩
    · skip
      have h4b := beq_f h4
      go_enter Try.func55, Try.ntmps55
      go_wp2
      go_ret
      exact ⟨ret_bool (by rw [H.out.1 (by first | rfl | trivial)]; simp [h4]), bl1 _ _⟩
  · skip
    have h2b := beq_f h2
    by_cases h3 : mo' = 2
    · skip
      subst h3
      go_enter Try.func55, Try.ntmps55
      go_wp2
      go_ret
      exact ⟨ret_bool (H.out.2.1 (by first | rfl | trivial)).symm, bl1 _ _⟩
    · skip
      have h3b := beq_f h3
      go_enter Try.func55, Try.ntmps55
      go_wp2
      go_ret
      exact ⟨ret_bool (H.out.2.2 h2 h3).symm, bl1 _ _⟩

set_option maxHeartbeats 1000000 in
theorem counts_calls (m : Md) (sa : Option Addr) (sn sc : Nat) (ga : Option Addr) (gn gc : Nat) (xn yn : Nat) (i j : Int) (w : World) (hx : xn ≤ maxLen) (hy : yn ≤ maxLen) :
    Calls Try.prog 34 #[.agg (mdCells m sa sn sc ga gn gc), .int .i64 xn, .int .i64 yn, .int .i64 i, .int .i64 j] w fun e w' => e = .returned (.bool (hasB m xn yn i j)) ∧ Below w.heap.size w w' := by
  unfold maxLen at hx hy
  have H : Hid (∀ b : Bool, (((0 ≤ i ∧ i ≤ xn ∧ 0 ≤ j ∧ j ≤ yn) ∧ (m.banded = false ∨ (m.lo ≤ j - i ∧ j - i ≤ m.hi))) ↔ b = true) → hasB m xn yn i j = b) := fun b h => hasB_of b h
  generalize hasB m xn yn i j = r at *
  obtain ⟨L, su, gp, mo, bd, lo, hi, fr, bk, le⟩ := m
  unfold mdCells
  simp only at H ⊢
  by_cases h1 : i < 0
  · skip
    have h1b : decide (0 ≤ i) = false := dec_f (by omega)
    go_enter Try.func34, Try.ntmps34
    go_wp2
    go_ret
    exact ⟨ret_bool (H.out false (by simp; omega)).symm, bl1 _ _⟩
  · skip
    have h1b : decide (0 ≤ i) = true := dec_t (by omega)
    by_cases h2 : (xn : Int) < i
    · skip
      have h2b : decide (i ≤ (xn : Int)) = false := dec_f (by omega)
      go_enter Try.func34, Try.ntmps34
      go_wp2
      go_ret
      exact ⟨ret_bool (H.out false (by simp; omega)).symm, bl1 _ _⟩
    · skip
      have h2b : decide (i ≤ (xn : Int)) = true := dec_t (by omega)
      by_cases h3 : j < 0
      · skip
        have h3b : decide (0 ≤ j) = false := dec_f (by omega)
        go_enter Try.func34, Try.ntmps34
        go_wp2
        go_ret
        exact ⟨ret_bool (H.out false (by simp; omega)).symm, bl1 _ _⟩
      · skip
        have h3b : decide (0 ≤ j) = true := dec_t (by omega)
        by_cases h4 : (yn : Int) < j
        · skip
          have h4b : decide (j ≤ (yn : Int)) = false := dec_f (by omega)
          go_enter Try.func34, Try.ntmps34
          go_wp2
          go_ret
          exact ⟨ret_bool (H.out false (by simp; omega)).symm, bl1 _ _⟩
        · skip
          have h4b : decide (j ≤ (yn : Int)) = true := dec_t (by omega)
          by_cases h5 : bd = true
          · skip
            subst h5
            by_cases h6 : lo ≤ j - i
            · skip
              have h6b : decide (lo ≤ j - i) = true := dec_t h6
              go_enter Try.func34, Try.ntmps34
              go_wp2
              go_ret
              exact ⟨ret_bool (H.out (decide (j - i ≤ hi)) (by rw [decide_eq_true_iff]; simp; omega)).symm, bl1 _ _⟩
            · skip
              have h6b : decide (lo ≤ j - i) = false := dec_f h6
              go_enter Try.func34, Try.ntmps34
              go_wp2
              go_ret
              exact ⟨ret_bool (H.out false (by simp; omega)).symm, bl1 _ _⟩
          · skip
            have h5f : bd = false := by simpa using h5
            subst h5f
            go_enter Try.func34, Try.ntmps34
            go_wp2
            go_ret
            exact ⟨ret_bool (H.out true (by simp; omega)).symm, bl1 _ _⟩

theorem u8_ne {c d : UInt8} (h : c ≠ d) : ((c.toNat : Int) == (d.toNat : Int)) = false := by rw [u8_int]; simpa using h
theorem u8_77 {c : UInt8} (h : c ≠ 77) : ((c.toNat : Int) == 77) = false := u8_ne (d := 77) h
theorem u8_68 {c : UInt8} (h : c ≠ 68) : ((c.toNat : Int) == 68) = false := u8_ne (d := 68) h
theorem u8_73 {c : UInt8} (h : c ≠ 73) : ((c.toNat : Int) == 73) = false := u8_ne (d := 73) h
theorem goB_77 (m : Md) : goB m 77 = true := by simp [goB]
theorem goB_g {m : Md} {gn : Nat} (h : m.gaps.length = gn) {c : UInt8} (hc : c = 68 ∨ c = 73) : goB m c = decide (0 < (gn : Int)) := by
  subst h
  rw [Bool.eq_iff_iff]
  rcases hc with rfl | rfl <;> simp [goB, ← List.length_pos_iff]
theorem goB_no {m : Md} {c : UInt8} (h1 : c ≠ 77) (h2 : c ≠ 68) (h3 : c ≠ 73) : goB m c = false := by simp [goB, h1, h2, h3]
set_option maxHeartbeats 1000000 in
theorem mayGo_calls (m : Md) (sa : Option Addr) (sn sc : Nat) (ga : Option Addr) (gn gc : Nat) (xa : Option Addr) (xn xc : Nat) (ya : Option Addr) (yn yc : Nat) (c : UInt8) (w : World) (hg : m.gaps.length = gn) :
    Calls Try.prog 48 #[.agg (fdCells m sa sn sc ga gn gc xa xn xc ya yn yc), .int .u8 c.toNat] w fun e w' => e = .returned (.bool (goB m c)) ∧ Below w.heap.size w w' := by
  have H : Hid ((c = 77 → goB m c = true) ∧ (c = 68 ∨ c = 73 → goB m c = decide (0 < (gn : Int))) ∧ (c ≠ 77 → c ≠ 68 → c ≠ 73 → goB m c = false)) := ⟨fun h => by rw [h]; exact goB_77 m, goB_g hg, goB_no⟩
  clear hg
  generalize goB m c = r at *

  obtain ⟨L, su, gp, mo, bd, lo, hi, fr, bk, le⟩ := m
  unfold fdCells
  simp only
  by_cases h1 : c = 77
  · skip
    subst h1
    go_enter Try.func48, Try.ntmps48
    go_wp2
    go_ret
    exact ⟨ret_bool (H.out.1 (by first | rfl | trivial)).symm, bl1 _ _⟩
  · skip
    have h1b := u8_77 h1
    by_cases h2 : c = 68
    · skip
      subst h2
      go_enter Try.func48, Try.ntmps48
      go_wp2
      go_ret
      exact ⟨ret_bool (by rw [H.out.2.1 (by first | trivial | exact .inl rfl | exact .inr rfl)]; simp), bl1 _ _⟩
    · skip
      have h2b := u8_68 h2
      by_cases h3 : c = 73
      · skip
        subst h3
        go_enter Try.func48, Try.ntmps48
        go_wp2
        go_ret
        exact ⟨ret_bool (by rw [H.out.2.1 (by first | trivial | exact .inl rfl | exact .inr rfl)]; simp), bl1 _ _⟩
      · skip
        have h3b := u8_73 h3
        go_enter Try.func48, Try.ntmps48
        go_wp2
        go_ret
        exact ⟨ret_bool (H.out.2.2 h1 h2 h3).symm, bl1 _ _⟩

set_option maxHeartbeats 1000000 in
theorem step_calls (c : UInt8) (w : World) :
    Calls Try.prog 47 #[.int .u8 c.toNat] w fun e w' => e = .returned (.tuple #[.int .i64 (dnB c), .int .i64 (ovB c)]) ∧ w = w' := by
  by_cases h1 : c = 77
  · skip
    subst h1
    go_enter Try.func47, Try.ntmps47
    go_wp2
    go_ret2
    exact ⟨by simp [dnB, ovB], rfl⟩
  · skip
    have h1b := u8_77 h1
    by_cases h2 : c = 68
    · skip
      subst h2
      go_enter Try.func47, Try.ntmps47
      go_wp2
      go_ret2
      exact ⟨by simp [dnB, ovB], rfl⟩
    · skip
      have h2b := u8_68 h2
      by_cases h3 : c = 73
      · skip
        subst h3
        go_enter Try.func47, Try.ntmps47
        go_wp2
        go_ret2
        exact ⟨by simp [dnB, ovB], rfl⟩
      · skip
        have h3b := u8_73 h3
        go_enter Try.func47, Try.ntmps47
        go_wp2
        go_ret2
        exact ⟨by simp [dnB, ovB, h1, h2, h3], rfl⟩

set_option maxHeartbeats 1000000 in
theorem down_calls (c : UInt8) (w : World) :
    Calls Try.prog 53 #[.int .u8 c.toNat] w fun e w' => e = .returned (.int .i64 (dnB c)) ∧ w = w' := by
  by_cases h1 : c = 77
  · skip
    subst h1
    go_enter Try.func53, Try.ntmps53
    go_wp2
    go_ret
    exact ⟨by simp [dnB], rfl⟩
  · skip
    have h1b := u8_77 h1
    by_cases h2 : c = 68
    · skip
      subst h2
      go_enter Try.func53, Try.ntmps53
      go_wp2
      go_ret
      exact ⟨by simp [dnB], rfl⟩
    · skip
      have h2b := u8_68 h2
      go_enter Try.func53, Try.ntmps53
      go_wp2
      go_ret
      exact ⟨by simp [dnB, h1, h2], rfl⟩

set_option maxHeartbeats 1000000 in
theorem over_calls (c : UInt8) (w : World) :
    Calls Try.prog 54 #[.int .u8 c.toNat] w fun e w' => e = .returned (.int .i64 (ovB c)) ∧ w = w' := by
  by_cases h1 : c = 77
  · skip
    subst h1
    go_enter Try.func54, Try.ntmps54
    go_wp2
    go_ret
    exact ⟨by simp [ovB], rfl⟩
  · skip
    have h1b := u8_77 h1
    by_cases h2 : c = 73
    · skip
      subst h2
      go_enter Try.func54, Try.ntmps54
      go_wp2
      go_ret
      exact ⟨by simp [ovB], rfl⟩
    · skip
      have h2b := u8_73 h2
      go_enter Try.func54, Try.ntmps54
      go_wp2
      go_ret
      exact ⟨by simp [ovB, h1, h2], rfl⟩

end Go.Proofs.Ytegndeefddlccaa
