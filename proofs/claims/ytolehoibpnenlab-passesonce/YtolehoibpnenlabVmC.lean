/-
  The document's small ones: times, Made, mayDef.
-/
import Derived.Test.YtolehoibpnenlabVmA
namespace Go.Proofs.Ytolehoibpnenlab
open Go.RowKit Go.Deep Go.Maps
theorem wrap_v {v : Int} (h1 : -144115188075855872 ≤ v) (h2 : v ≤ 144115188075855872) : IntKind.i64.wrap v = v := by
  simp [IntKind.wrap, IntKind.bits, IntKind.signed]
  omega
theorem times_big {a b : Int} (h : inB maxV (a * b) = false) : timesB a b = (0, false) := by unfold timesB; rw [h]; rfl
theorem times_ok {a b : Int} (h : inB maxV (a * b) = true) : timesB a b = (a * b, true) := by unfold timesB; rw [h]; rfl
theorem tquot (x y : Int) (hx : 0 < x) {q : Int} (h : Int.tdiv 144115188075855872 x = q) : 0 ≤ q ∧ q ≤ 144115188075855872 ∧ (q < y → 144115188075855872 < x * y) ∧ (y ≤ q → x * y ≤ 144115188075855872) := by
  rw [Int.tdiv_eq_ediv_of_nonneg (by decide)] at h
  subst h
  refine ⟨Int.ediv_nonneg (by decide) (by omega), Int.ediv_le_self _ (by decide), fun h => (bdiv hx).1 h, fun h => ?_⟩
  have := (bdiv (b := y) hx).2
  by_cases c : 144115188075855872 < x * y
  · have := this c; omega
  · omega
set_option maxRecDepth 20000 in
set_option maxHeartbeats 400000 in
theorem reftimes_calls (a b : Int) (w : World) (ha1 : -144115188075855872 ≤ a) (ha2 : a ≤ 144115188075855872) (hb1 : -144115188075855872 ≤ b) (hb2 : b ≤ 144115188075855872) :
    Calls Try.prog 22 #[.int .i64 a, .int .i64 b, .int .i64 144115188075855872] w fun e w' => e = .returned (.tuple #[.int .i64 (timesB a b).1, .bool (timesB a b).2]) ∧ w' = w := by
  by_cases hz : a = 0
  · subst hz
    have HT : Hid (timesB 0 b = (0, true)) := by show timesB 0 b = _; rw [times_ok (by rw [Int.zero_mul]; decide), Int.zero_mul]
    have h0 : ((0 : Int) == 0) = true := rfl
    have hw : IntKind.i64.wrap (0 * b) = 0 := by rw [Int.zero_mul]; rfl
    rw [HT.out]
    by_cases sb : b < 0
    · have db : decide (b < 0) = true := by simpa using sb
      go_enter Try.func22, Try.ntmps22
      go_wp2
      go_ret2
      exact ⟨rfl, rfl⟩
    · have db : decide (b < 0) = false := by simpa using sb
      go_enter Try.func22, Try.ntmps22
      go_wp2
      go_ret2
      exact ⟨rfl, rfl⟩
  by_cases sa : a < 0
  · have da : decide (a < 0) = true := by simpa using sa
    by_cases sb : b < 0
    · have db : decide (b < 0) = true := by simpa using sb
      obtain ⟨q, hq⟩ : ∃ q, Int.tdiv 144115188075855872 (-a) = q := ⟨_, rfl⟩
      have hk := tquot (-a) (-b) (by omega) hq
      have hne : ((-a) == (0 : Int)) = false := by simp; omega
      by_cases hbig : q < (-b)
      · have hbd : decide (q < (-b)) = true := by simpa using hbig
        have HT : Hid (timesB a b = (0, false)) := times_big (by rw [times_in]; simp only [decide_eq_false_iff_not]; rw [show (a.natAbs : Int) = (-a) by omega, show (b.natAbs : Int) = (-b) by omega]; have := hk.2.2.1 hbig; omega)
        have hq1 := hk.1
        have hq2 := hk.2.1
        clear hk
        rw [HT.out]
        go_enter Try.func22, Try.ntmps22
        go_wp2
        go_ret2
        exact ⟨rfl, rfl⟩
      · have hbd : decide (q < (-b)) = false := by simpa using hbig
        have hin : inB maxV (a * b) = true := by rw [times_in]; simp only [decide_eq_true_eq]; rw [show (a.natAbs : Int) = (-a) by omega, show (b.natAbs : Int) = (-b) by omega]; exact hk.2.2.2 (by omega)
        have HT : Hid (timesB a b = (a * b, true)) := times_ok hin
        have hw : IntKind.i64.wrap (a * b) = a * b := by have := (inB_iff _ _).1 hin; unfold maxV at this; exact wrap_v this.1 this.2
        have hq1 := hk.1
        have hq2 := hk.2.1
        clear hk hin
        rw [HT.out]
        go_enter Try.func22, Try.ntmps22
        go_wp2
        go_ret2
        exact ⟨rfl, rfl⟩
    · have db : decide (b < 0) = false := by simpa using sb
      obtain ⟨q, hq⟩ : ∃ q, Int.tdiv 144115188075855872 (-a) = q := ⟨_, rfl⟩
      have hk := tquot (-a) b (by omega) hq
      have hne : ((-a) == (0 : Int)) = false := by simp; omega
      by_cases hbig : q < b
      · have hbd : decide (q < b) = true := by simpa using hbig
        have HT : Hid (timesB a b = (0, false)) := times_big (by rw [times_in]; simp only [decide_eq_false_iff_not]; rw [show (a.natAbs : Int) = (-a) by omega, show (b.natAbs : Int) = b by omega]; have := hk.2.2.1 hbig; omega)
        have hq1 := hk.1
        have hq2 := hk.2.1
        clear hk
        rw [HT.out]
        go_enter Try.func22, Try.ntmps22
        go_wp2
        go_ret2
        exact ⟨rfl, rfl⟩
      · have hbd : decide (q < b) = false := by simpa using hbig
        have hin : inB maxV (a * b) = true := by rw [times_in]; simp only [decide_eq_true_eq]; rw [show (a.natAbs : Int) = (-a) by omega, show (b.natAbs : Int) = b by omega]; exact hk.2.2.2 (by omega)
        have HT : Hid (timesB a b = (a * b, true)) := times_ok hin
        have hw : IntKind.i64.wrap (a * b) = a * b := by have := (inB_iff _ _).1 hin; unfold maxV at this; exact wrap_v this.1 this.2
        have hq1 := hk.1
        have hq2 := hk.2.1
        clear hk hin
        rw [HT.out]
        go_enter Try.func22, Try.ntmps22
        go_wp2
        go_ret2
        exact ⟨rfl, rfl⟩
  · have da : decide (a < 0) = false := by simpa using sa
    by_cases sb : b < 0
    · have db : decide (b < 0) = true := by simpa using sb
      obtain ⟨q, hq⟩ : ∃ q, Int.tdiv 144115188075855872 a = q := ⟨_, rfl⟩
      have hk := tquot a (-b) (by omega) hq
      have hne : (a == (0 : Int)) = false := by simp; omega
      by_cases hbig : q < (-b)
      · have hbd : decide (q < (-b)) = true := by simpa using hbig
        have HT : Hid (timesB a b = (0, false)) := times_big (by rw [times_in]; simp only [decide_eq_false_iff_not]; rw [show (a.natAbs : Int) = a by omega, show (b.natAbs : Int) = (-b) by omega]; have := hk.2.2.1 hbig; omega)
        have hq1 := hk.1
        have hq2 := hk.2.1
        clear hk
        rw [HT.out]
        go_enter Try.func22, Try.ntmps22
        go_wp2
        go_ret2
        exact ⟨rfl, rfl⟩
      · have hbd : decide (q < (-b)) = false := by simpa using hbig
        have hin : inB maxV (a * b) = true := by rw [times_in]; simp only [decide_eq_true_eq]; rw [show (a.natAbs : Int) = a by omega, show (b.natAbs : Int) = (-b) by omega]; exact hk.2.2.2 (by omega)
        have HT : Hid (timesB a b = (a * b, true)) := times_ok hin
        have hw : IntKind.i64.wrap (a * b) = a * b := by have := (inB_iff _ _).1 hin; unfold maxV at this; exact wrap_v this.1 this.2
        have hq1 := hk.1
        have hq2 := hk.2.1
        clear hk hin
        rw [HT.out]
        go_enter Try.func22, Try.ntmps22
        go_wp2
        go_ret2
        exact ⟨rfl, rfl⟩
    · have db : decide (b < 0) = false := by simpa using sb
      obtain ⟨q, hq⟩ : ∃ q, Int.tdiv 144115188075855872 a = q := ⟨_, rfl⟩
      have hk := tquot a b (by omega) hq
      have hne : (a == (0 : Int)) = false := by simp; omega
      by_cases hbig : q < b
      · have hbd : decide (q < b) = true := by simpa using hbig
        have HT : Hid (timesB a b = (0, false)) := times_big (by rw [times_in]; simp only [decide_eq_false_iff_not]; rw [show (a.natAbs : Int) = a by omega, show (b.natAbs : Int) = b by omega]; have := hk.2.2.1 hbig; omega)
        have hq1 := hk.1
        have hq2 := hk.2.1
        clear hk
        rw [HT.out]
        go_enter Try.func22, Try.ntmps22
        go_wp2
        go_ret2
        exact ⟨rfl, rfl⟩
      · have hbd : decide (q < b) = false := by simpa using hbig
        have hin : inB maxV (a * b) = true := by rw [times_in]; simp only [decide_eq_true_eq]; rw [show (a.natAbs : Int) = a by omega, show (b.natAbs : Int) = b by omega]; exact hk.2.2.2 (by omega)
        have HT : Hid (timesB a b = (a * b, true)) := times_ok hin
        have hw : IntKind.i64.wrap (a * b) = a * b := by have := (inB_iff _ _).1 hin; unfold maxV at this; exact wrap_v this.1 this.2
        have hq1 := hk.1
        have hq2 := hk.2.1
        clear hk hin
        rw [HT.out]
        go_enter Try.func22, Try.ntmps22
        go_wp2
        go_ret2
        exact ⟨rfl, rfl⟩
def madeV (op a b : Int) : Int := if op = 5 then (timesB a b).1 else madeR op a b
theorem madeV_in {op a b : Int} (h : inB maxV (madeR op a b) = true) : madeV op a b = madeR op a b := by
  unfold madeV
  split
  · next e =>
    subst e
    have e2 : madeR 5 a b = a * b := rfl
    rw [e2] at h ⊢
    rw [times_ok h]
  · rfl
set_option maxRecDepth 20000 in
set_option maxHeartbeats 400000 in
theorem made_calls (op a b : Int) (w : World) (h2 : 2 ≤ op) (h7 : op ≤ 7) (ha1 : -144115188075855872 ≤ a) (ha2 : a ≤ 144115188075855872) (hb1 : -144115188075855872 ≤ b) (hb2 : b ≤ 144115188075855872) :
    Calls Try.prog 15 #[.int .i64 op, .int .i64 a, .int .i64 b, .int .i64 144115188075855872] w fun e w' => e = .returned (.tuple #[.int .i64 (madeV op a b), .bool (inB maxV (madeR op a b))]) ∧ w' = w := by
  have hop : op = 2 ∨ op = 3 ∨ op = 4 ∨ op = 5 ∨ op = 6 ∨ op = 7 := by omega
  clear h2 h7
  rcases hop with rfl | rfl | rfl | rfl | rfl | rfl
  · have HR : Hid (madeR 2 a b = (-a)) := rfl
    have HR2 : Hid (madeV 2 a b = (-a)) := rfl
    rw [HR.out, HR2.out]
    by_cases k1 : -144115188075855872 ≤ (-a)
    · have d1 : decide (-144115188075855872 ≤ (-a)) = true := by simpa using k1
      go_enter Try.func15, Try.ntmps15
      go_wp2
      go_ret2
      exact ⟨congrArg (fun t => Ending.returned (.tuple #[.int .i64 (-a), .bool t])) (by simp [inB, maxV]; omega), rfl⟩
    · have d1 : decide (-144115188075855872 ≤ (-a)) = false := by simpa using k1
      go_enter Try.func15, Try.ntmps15
      go_wp2
      go_ret2
      exact ⟨congrArg (fun t => Ending.returned (.tuple #[.int .i64 (-a), .bool t])) (by simp [inB, maxV]; omega), rfl⟩
  · have HR : Hid (madeR 3 a b = (a + b)) := rfl
    have HR2 : Hid (madeV 3 a b = (a + b)) := rfl
    rw [HR.out, HR2.out]
    by_cases k1 : -144115188075855872 ≤ (a + b)
    · have d1 : decide (-144115188075855872 ≤ (a + b)) = true := by simpa using k1
      go_enter Try.func15, Try.ntmps15
      go_wp2
      go_ret2
      exact ⟨congrArg (fun t => Ending.returned (.tuple #[.int .i64 (a + b), .bool t])) (by simp [inB, maxV]; omega), rfl⟩
    · have d1 : decide (-144115188075855872 ≤ (a + b)) = false := by simpa using k1
      go_enter Try.func15, Try.ntmps15
      go_wp2
      go_ret2
      exact ⟨congrArg (fun t => Ending.returned (.tuple #[.int .i64 (a + b), .bool t])) (by simp [inB, maxV]; omega), rfl⟩
  · have HR : Hid (madeR 4 a b = (a - b)) := rfl
    have HR2 : Hid (madeV 4 a b = (a - b)) := rfl
    rw [HR.out, HR2.out]
    by_cases k1 : -144115188075855872 ≤ (a - b)
    · have d1 : decide (-144115188075855872 ≤ (a - b)) = true := by simpa using k1
      go_enter Try.func15, Try.ntmps15
      go_wp2
      go_ret2
      exact ⟨congrArg (fun t => Ending.returned (.tuple #[.int .i64 (a - b), .bool t])) (by simp [inB, maxV]; omega), rfl⟩
    · have d1 : decide (-144115188075855872 ≤ (a - b)) = false := by simpa using k1
      go_enter Try.func15, Try.ntmps15
      go_wp2
      go_ret2
      exact ⟨congrArg (fun t => Ending.returned (.tuple #[.int .i64 (a - b), .bool t])) (by simp [inB, maxV]; omega), rfl⟩
  · have HR : Hid (madeR 5 a b = a * b) := rfl
    rw [HR.out]
    have hC := reftimes_calls a b w ha1 ha2 hb1 hb2
    cases hin : inB maxV (a * b)
    · rw [times_big hin] at hC
      have HC : Hid (Calls Try.prog 22 #[.int .i64 a, .int .i64 b, .int .i64 144115188075855872] w fun e w' => e = .returned (.tuple #[.int .i64 0, .bool false]) ∧ w' = w) := hC
      have HI : Hid (inB maxV (a * b) = false) := hin
      have HV : Hid (madeV 5 a b = 0) := by show madeV 5 a b = 0; unfold madeV; rw [if_pos rfl, times_big hin]
      clear hC hin
      go_enter Try.func15, Try.ntmps15
      go_wp2_with (go_at_call 22; refine (HC.out).mono ?_; rintro e w' ⟨rfl, rfl⟩)
      go_ret2
      exact ⟨by rw [HV.out]; rfl, rfl⟩
    · rw [times_ok hin] at hC
      have HC : Hid (Calls Try.prog 22 #[.int .i64 a, .int .i64 b, .int .i64 144115188075855872] w fun e w' => e = .returned (.tuple #[.int .i64 (a * b), .bool true]) ∧ w' = w) := hC
      have HI : Hid (inB maxV (a * b) = true) := hin
      have HV : Hid (madeV 5 a b = a * b) := by show madeV 5 a b = _; unfold madeV; rw [if_pos rfl, times_ok hin]
      have hb := (inB_iff _ _).1 hin
      unfold maxV at hb
      obtain ⟨k1, k2⟩ := hb
      have d1 : decide (-144115188075855872 ≤ a * b) = true := by simpa using k1
      have d2 : decide (a * b ≤ 144115188075855872) = true := by simpa using k2
      clear hC hin
      generalize a * b = r at *
      go_enter Try.func15, Try.ntmps15
      go_wp2_with (go_at_call 22; refine (HC.out).mono ?_; rintro e w' ⟨rfl, rfl⟩)
      go_ret2
      exact ⟨by rw [HV.out]; rfl, rfl⟩
  · have HR : Hid (madeR 6 a b = (min a b)) := rfl
    have HR2 : Hid (madeV 6 a b = (min a b)) := rfl
    rw [HR.out, HR2.out]
    by_cases k1 : -144115188075855872 ≤ (min a b)
    · have d1 : decide (-144115188075855872 ≤ (min a b)) = true := by simpa using k1
      go_enter Try.func15, Try.ntmps15
      go_wp2
      go_ret2
      exact ⟨congrArg (fun t => Ending.returned (.tuple #[.int .i64 (min a b), .bool t])) (by simp [inB, maxV]; omega), rfl⟩
    · have d1 : decide (-144115188075855872 ≤ (min a b)) = false := by simpa using k1
      go_enter Try.func15, Try.ntmps15
      go_wp2
      go_ret2
      exact ⟨congrArg (fun t => Ending.returned (.tuple #[.int .i64 (min a b), .bool t])) (by simp [inB, maxV]; omega), rfl⟩
  · have HR : Hid (madeR 7 a b = (max a b)) := rfl
    have HR2 : Hid (madeV 7 a b = (max a b)) := rfl
    rw [HR.out, HR2.out]
    by_cases k1 : -144115188075855872 ≤ (max a b)
    · have d1 : decide (-144115188075855872 ≤ (max a b)) = true := by simpa using k1
      go_enter Try.func15, Try.ntmps15
      go_wp2
      go_ret2
      exact ⟨congrArg (fun t => Ending.returned (.tuple #[.int .i64 (max a b), .bool t])) (by simp [inB, maxV]; omega), rfl⟩
    · have d1 : decide (-144115188075855872 ≤ (max a b)) = false := by simpa using k1
      go_enter Try.func15, Try.ntmps15
      go_wp2
      go_ret2
      exact ⟨congrArg (fun t => Ending.returned (.tuple #[.int .i64 (max a b), .bool t])) (by simp [inB, maxV]; omega), rfl⟩
end Go.Proofs.Ytolehoibpnenlab
