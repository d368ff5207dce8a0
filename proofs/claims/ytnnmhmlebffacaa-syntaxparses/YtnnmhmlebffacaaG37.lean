/-
  Two texts one behind the other; a piece of a text. Right: heads of expressions, lists of them.
-/
import Derived.Test.YtnnmhmlebffacaaG18
import Derived.Test.YtnnmhmlebffacaaG25
namespace Go.Proofs.Ytnnmhmlebffacaa
open Go.RowKit

/-- Two texts, one behind the other, under one name. -/
theorem cat_var (a b : ByteArray) (h : a.size + b.size ≤ 1000000000) : ∃ c : ByteArray, c.data.toList = a.data.toList ++ b.data.toList ∧ c.size = a.size + b.size ∧ ∀ W, (Op.stringOp .add a b).run Try.prog W = .ok (.string c) W :=
  ⟨a ++ b, by rw [ByteArray.data_append, Array.toList_append], ByteArray.size_append, fun W => run_string_add_sum W _ _ (by omega)⟩
theorem slice_run (s : ByteArray) (k q : Nat) (h1 : k ≤ q) (h2 : q ≤ s.size) (w : World) : (Instr.slice 9 (.string s) (some (.int .i64 (k : Int))) (some (.int .i64 (q : Int))) none).run Try.prog w = .ok (.string (s.extract k q)) w := by
  go_simp
end Go.Proofs.Ytnnmhmlebffacaa
namespace Go.Proofs.Ytnnmhmlebffacaa
open Go.RowKit Go.Deep

def headTx (l : List Tk) : List UInt8 := match l with | [] => [] | t :: _ => t.text
/-- What may stand between the marks of a text, by asking for its tokens. -/
def txB (s : List UInt8) : Bool := decide (s.length ≤ 40) && (decide ((scanB (34 :: s ++ [34])).2.2 = 0) && decide (headTx (scanB (34 :: s ++ [34])).1 = s))
set_option maxRecDepth 20000 in
set_option maxHeartbeats 4000000 in
theorem isTextP_calls (s : ByteArray) (w : World) (hs : s.size ≤ maxLen) :
    Calls Try.prog 91 #[.string s] w fun e w' => e = .returned (.bool (txB s.data.toList)) ∧ Below w.heap.size w w' := by
  unfold maxLen at hs
  by_cases h40 : 40 < s.size
  · have HX : Hid (txB s.data.toList = false) := by show txB s.data.toList = false; unfold txB; rw [size_toList]; simp; omega
    have q : decide ((40 : Int) < (s.size : Int)) = true := by simp; omega
    go_enter Try.func91, Try.ntmps91
    go_wp2
    go_ret
    exact ⟨ret_bool HX.out.symm, Below.refl _ _⟩
  · have q : decide ((40 : Int) < (s.size : Int)) = false := by simp; omega
    obtain ⟨c1, d1, n1, e1⟩ := cat_var ⟨#[34]⟩ s (by rw [show (⟨#[34]⟩ : ByteArray).size = 1 from rfl]; omega)
    have n1' : c1.size = 1 + s.size := by rw [n1]; rfl
    obtain ⟨c2, d2, n2, e2⟩ := cat_var c1 ⟨#[34]⟩ (by rw [show (⟨#[34]⟩ : ByteArray).size = 1 from rfl]; omega)
    have hc2 : c2.data.toList = 34 :: s.data.toList ++ [34] := by rw [d2, d1]; rfl
    have HS : Hid (∀ w, Calls Try.prog 21 #[.string c2] w fun e w' => ScanPost (scanB (34 :: s.data.toList ++ [34])) w e w') := fun w => by
      have := scan_calls c2 w
      rw [hc2] at this; exact this
    have HX : Hid (txB s.data.toList = (decide ((scanB (34 :: s.data.toList ++ [34])).2.2 = 0) && decide (headTx (scanB (34 :: s.data.toList ++ [34])).1 = s.data.toList))) := by
      show txB _ = _
      unfold txB
      rw [size_toList, show decide (s.size ≤ 40) = true by simp; omega, Bool.true_and]
    have HG : Hid ((scanB (34 :: s.data.toList ++ [34])).2.2 = 0 → (scanB (34 :: s.data.toList ++ [34])).1 ≠ []) := fun h => by
      obtain ⟨_, _, T, hT, _⟩ := scan_good h
      rw [hT]; simp
    have HK : Hid (∀ t ∈ (scanB (34 :: s.data.toList ++ [34])).1, TkOk t) := scan_ok _
    clear d1 d2 n1 n2 hc2
    generalize scanB (34 :: s.data.toList ++ [34]) = A at *
    obtain ⟨l, p0, z⟩ := A
    by_cases hz : z = 0
    · subst hz
      have hne := HG.out rfl
      have q0 : ((0 : Int) == 0) = true := rfl
      cases l with
      | nil => exact absurd rfl hne
      | cons t r =>
        have HX2 : Hid (txB s.data.toList = ((bs t.text).toList == s.toList)) := by
          show txB _ = _
          rw [HX.out, bs_toList, ByteArray.toList_eq, Bool.eq_iff_iff]
          simp [headTx]
          exact decide_eq_true_iff
        clear HX hne HG
        generalize hX : ((bs t.text).toList == s.toList) = b at *
        go_enter Try.func91, Try.ntmps91
        go_wp2_with fail
        refine (HS.out _).mono ?_
        rintro e w1 ⟨v, rfl, ho, hb1⟩
        obtain ⟨ao, cap, rfl⟩ := owned_shape ho
        have htk := owned_tks ho HK.out
        obtain ⟨g, off, rfl, hc⟩ := htk.cells (by simp)
        obtain ⟨x0, x1, x2, x3⟩ := hc 0 t rfl
        simp only [Nat.zero_mul, Nat.add_zero] at x0 x1 x2 x3
        have HB : Hid (Below w.heap.size w w1) := hb1
        clear ho htk hc hb1 HS HK
        simp only [List.length_cons]
        go_wp2
        go_ret
        exact ⟨ret_bool HX2.out.symm, HB.out⟩
    · have q0 : (z == 0) = false := by rw [beq_eq_false_iff_ne]; exact hz
      have HX2 : Hid (txB s.data.toList = false) := by
        show txB _ = _
        rw [HX.out]; simp [hz]
      clear HX HG hz
      go_enter Try.func91, Try.ntmps91
      go_wp2_with fail
      refine (HS.out _).mono ?_
      rintro e w1 ⟨v, rfl, ho, hb1⟩
      obtain ⟨ao, cap, rfl⟩ := owned_shape ho
      have HB : Hid (Below w.heap.size w w1) := hb1
      clear ho hb1 HS HK
      simp only
      go_wp2
      go_ret
      exact ⟨ret_bool HX2.out.symm, HB.out⟩
def hdRight (h : Hd) (n : Nat) : Bool :=
  if h.kind = 1 then decide (0 ≤ h.num) && (decide (h.num ≤ 72057594037927936) && (decide (h.text = []) && decide (n = 0)))
  else if h.kind = 2 then decide (h.num = 0) && (nameB h.text && decide (n = 0))
  else if h.kind = 3 then decide (h.num = 0) && (txB h.text && decide (n = 0))
  else if h.kind = 4 then decide (h.num = 0) && (decide (h.text = []) && decide (n = 1))
  else if h.kind = 5 ∨ h.kind = 6 ∨ h.kind = 7 then decide (h.num = 0) && (decide (h.text = []) && decide (n = 2))
  else if h.kind = 8 ∨ h.kind = 9 then decide (h.num = 0) && (decide (h.text = []) && (decide (1 ≤ n) && decide (n ≤ 8)))
  else false
theorem emptyT (l : List UInt8) : ((bs l).toList == []) = decide (l = []) := by
  rw [bs_toList, Bool.eq_iff_iff]; simp
theorem intB (a : Int) (b : Int) : (a == b) = decide (a = b) := rfl
theorem natB (n k : Nat) : ((n : Int) == (k : Int)) = decide (n = k) := by
  rw [Bool.eq_iff_iff]; simp; omega
set_option maxRecDepth 20000 in
set_option maxHeartbeats 4000000 in
theorem head_num (h : Hd) (ka : Option Addr) (n c : Nat) (w : World) (hk : h.kind = 1) :
    Calls Try.prog 78 #[.agg #[.int .i64 h.kind, .int .i64 h.num, .string (bs h.text), .slice ka n c, .int .i64 h.pl]] w fun e w' => e = .returned (.bool (decide (0 ≤ h.num) && (decide (h.num ≤ 72057594037927936) && (decide (h.text = []) && decide (n = 0))))) ∧ Below w.heap.size w w' := by
  have k1 : (h.kind == 1) = true := by rw [beq_iff_eq]; omega
  have HB : Hid (Below w.heap.size w (w.alloc (.cells #[.int .i64 h.kind, .int .i64 h.num, .string (bs h.text), .slice ka n c, .int .i64 h.pl] 35))) := (Below.refl _ _).alloc (Nat.le_refl _) _
  clear hk
  by_cases h0 : 0 ≤ h.num
  · have a0 : decide ((0 : Int) ≤ h.num) = true := by simpa using h0
    by_cases h1 : h.num ≤ 72057594037927936
    · have a1 : decide (h.num ≤ 72057594037927936) = true := by simpa using h1
      have b2 : ((bs h.text).toList == []) = decide (h.text = []) := emptyT _
      have b3 : ((n : Int) == 0) = decide (n = 0) := natB n 0
      have HV : Hid ((decide (0 ≤ h.num) && (decide (h.num ≤ 72057594037927936) && (decide (h.text = []) && decide (n = 0)))) = (decide (h.text = []) && decide (n = 0))) := by show _ = _; rw [a0, a1]; rfl
      rw [HV.out]
      generalize decide (h.text = []) = v2 at *
      generalize decide (n = 0) = v3 at *
      clear HV
      cases v2 <;> cases v3 <;> (
        go_enter Try.func78, Try.ntmps78
        go_wp2
        go_ret
        exact ⟨rfl, HB.out⟩)
    · have a1 : decide (h.num ≤ 72057594037927936) = false := by simpa using h1
      have HV : Hid ((decide (0 ≤ h.num) && (decide (h.num ≤ 72057594037927936) && (decide (h.text = []) && decide (n = 0)))) = false) := by show _ = _; rw [a1]; simp
      rw [HV.out]
      go_enter Try.func78, Try.ntmps78
      go_wp2
      go_ret
      exact ⟨rfl, HB.out⟩
  · have a0 : decide ((0 : Int) ≤ h.num) = false := by simpa using h0
    have HV : Hid ((decide (0 ≤ h.num) && (decide (h.num ≤ 72057594037927936) && (decide (h.text = []) && decide (n = 0)))) = false) := by show _ = _; rw [a0]; rfl
    rw [HV.out]
    go_enter Try.func78, Try.ntmps78
    go_wp2
    go_ret
    exact ⟨rfl, HB.out⟩
set_option maxRecDepth 20000 in
set_option maxHeartbeats 4000000 in
theorem head_neg (h : Hd) (ka : Option Addr) (n c : Nat) (w : World) (hk : h.kind = 4) :
    Calls Try.prog 78 #[.agg #[.int .i64 h.kind, .int .i64 h.num, .string (bs h.text), .slice ka n c, .int .i64 h.pl]] w fun e w' => e = .returned (.bool (decide (h.num = 0) && (decide (h.text = []) && decide (n = 1)))) ∧ Below w.heap.size w w' := by
  have k1 : (h.kind == 1) = false := by rw [beq_eq_false_iff_ne]; omega
  have k2 : (h.kind == 2) = false := by rw [beq_eq_false_iff_ne]; omega
  have k3 : (h.kind == 3) = false := by rw [beq_eq_false_iff_ne]; omega
  have k4 : (h.kind == 4) = true := by rw [beq_iff_eq]; omega
  have HB : Hid (Below w.heap.size w (w.alloc (.cells #[.int .i64 h.kind, .int .i64 h.num, .string (bs h.text), .slice ka n c, .int .i64 h.pl] 35))) := (Below.refl _ _).alloc (Nat.le_refl _) _
  clear hk
  have b0 : (h.num == 0) = decide (h.num = 0) := rfl
  have b1 : ((bs h.text).toList == []) = decide (h.text = []) := emptyT _
  have b2 : ((n : Int) == 1) = decide (n = 1) := natB n 1
  generalize decide (h.num = 0) = v0 at *
  generalize decide (h.text = []) = v1 at *
  generalize decide (n = 1) = v2 at *
  cases v0 <;> cases v1 <;> cases v2 <;> (
    go_enter Try.func78, Try.ntmps78
    go_wp2
    go_ret
    exact ⟨rfl, HB.out⟩)
set_option maxRecDepth 20000 in
set_option maxHeartbeats 4000000 in
theorem head_two5 (h : Hd) (ka : Option Addr) (n c : Nat) (w : World) (hk : h.kind = 5) :
    Calls Try.prog 78 #[.agg #[.int .i64 h.kind, .int .i64 h.num, .string (bs h.text), .slice ka n c, .int .i64 h.pl]] w fun e w' => e = .returned (.bool (decide (h.num = 0) && (decide (h.text = []) && decide (n = 2)))) ∧ Below w.heap.size w w' := by
  have k1 : (h.kind == 1) = false := by rw [beq_eq_false_iff_ne]; omega
  have k2 : (h.kind == 2) = false := by rw [beq_eq_false_iff_ne]; omega
  have k3 : (h.kind == 3) = false := by rw [beq_eq_false_iff_ne]; omega
  have k4 : (h.kind == 4) = false := by rw [beq_eq_false_iff_ne]; omega
  have k5 : (h.kind == 5) = true := by rw [beq_iff_eq]; omega
  have HB : Hid (Below w.heap.size w (w.alloc (.cells #[.int .i64 h.kind, .int .i64 h.num, .string (bs h.text), .slice ka n c, .int .i64 h.pl] 35))) := (Below.refl _ _).alloc (Nat.le_refl _) _
  clear hk
  have b0 : (h.num == 0) = decide (h.num = 0) := rfl
  have b1 : ((bs h.text).toList == []) = decide (h.text = []) := emptyT _
  have b2 : ((n : Int) == 2) = decide (n = 2) := natB n 2
  generalize decide (h.num = 0) = v0 at *
  generalize decide (h.text = []) = v1 at *
  generalize decide (n = 2) = v2 at *
  cases v0 <;> cases v1 <;> cases v2 <;> (
    go_enter Try.func78, Try.ntmps78
    go_wp2
    go_ret
    exact ⟨rfl, HB.out⟩)
set_option maxRecDepth 20000 in
set_option maxHeartbeats 4000000 in
theorem head_two6 (h : Hd) (ka : Option Addr) (n c : Nat) (w : World) (hk : h.kind = 6) :
    Calls Try.prog 78 #[.agg #[.int .i64 h.kind, .int .i64 h.num, .string (bs h.text), .slice ka n c, .int .i64 h.pl]] w fun e w' => e = .returned (.bool (decide (h.num = 0) && (decide (h.text = []) && decide (n = 2)))) ∧ Below w.heap.size w w' := by
  have k1 : (h.kind == 1) = false := by rw [beq_eq_false_iff_ne]; omega
  have k2 : (h.kind == 2) = false := by rw [beq_eq_false_iff_ne]; omega
  have k3 : (h.kind == 3) = false := by rw [beq_eq_false_iff_ne]; omega
  have k4 : (h.kind == 4) = false := by rw [beq_eq_false_iff_ne]; omega
  have k5 : (h.kind == 5) = false := by rw [beq_eq_false_iff_ne]; omega
  have k6 : (h.kind == 6) = true := by rw [beq_iff_eq]; omega
  have HB : Hid (Below w.heap.size w (w.alloc (.cells #[.int .i64 h.kind, .int .i64 h.num, .string (bs h.text), .slice ka n c, .int .i64 h.pl] 35))) := (Below.refl _ _).alloc (Nat.le_refl _) _
  clear hk
  have b0 : (h.num == 0) = decide (h.num = 0) := rfl
  have b1 : ((bs h.text).toList == []) = decide (h.text = []) := emptyT _
  have b2 : ((n : Int) == 2) = decide (n = 2) := natB n 2
  generalize decide (h.num = 0) = v0 at *
  generalize decide (h.text = []) = v1 at *
  generalize decide (n = 2) = v2 at *
  cases v0 <;> cases v1 <;> cases v2 <;> (
    go_enter Try.func78, Try.ntmps78
    go_wp2
    go_ret
    exact ⟨rfl, HB.out⟩)
set_option maxRecDepth 20000 in
set_option maxHeartbeats 4000000 in
theorem head_two7 (h : Hd) (ka : Option Addr) (n c : Nat) (w : World) (hk : h.kind = 7) :
    Calls Try.prog 78 #[.agg #[.int .i64 h.kind, .int .i64 h.num, .string (bs h.text), .slice ka n c, .int .i64 h.pl]] w fun e w' => e = .returned (.bool (decide (h.num = 0) && (decide (h.text = []) && decide (n = 2)))) ∧ Below w.heap.size w w' := by
  have k1 : (h.kind == 1) = false := by rw [beq_eq_false_iff_ne]; omega
  have k2 : (h.kind == 2) = false := by rw [beq_eq_false_iff_ne]; omega
  have k3 : (h.kind == 3) = false := by rw [beq_eq_false_iff_ne]; omega
  have k4 : (h.kind == 4) = false := by rw [beq_eq_false_iff_ne]; omega
  have k5 : (h.kind == 5) = false := by rw [beq_eq_false_iff_ne]; omega
  have k6 : (h.kind == 6) = false := by rw [beq_eq_false_iff_ne]; omega
  have k7 : (h.kind == 7) = true := by rw [beq_iff_eq]; omega
  have HB : Hid (Below w.heap.size w (w.alloc (.cells #[.int .i64 h.kind, .int .i64 h.num, .string (bs h.text), .slice ka n c, .int .i64 h.pl] 35))) := (Below.refl _ _).alloc (Nat.le_refl _) _
  clear hk
  have b0 : (h.num == 0) = decide (h.num = 0) := rfl
  have b1 : ((bs h.text).toList == []) = decide (h.text = []) := emptyT _
  have b2 : ((n : Int) == 2) = decide (n = 2) := natB n 2
  generalize decide (h.num = 0) = v0 at *
  generalize decide (h.text = []) = v1 at *
  generalize decide (n = 2) = v2 at *
  cases v0 <;> cases v1 <;> cases v2 <;> (
    go_enter Try.func78, Try.ntmps78
    go_wp2
    go_ret
    exact ⟨rfl, HB.out⟩)
set_option maxRecDepth 20000 in
set_option maxHeartbeats 4000000 in
theorem head_many8 (h : Hd) (ka : Option Addr) (n c : Nat) (w : World) (hn : n ≤ maxLen) (hk : h.kind = 8) :
    Calls Try.prog 78 #[.agg #[.int .i64 h.kind, .int .i64 h.num, .string (bs h.text), .slice ka n c, .int .i64 h.pl]] w fun e w' => e = .returned (.bool (decide (h.num = 0) && (decide (h.text = []) && (decide (1 ≤ n) && decide (n ≤ 8))))) ∧ Below w.heap.size w w' := by
  unfold maxLen at hn
  have k1 : (h.kind == 1) = false := by rw [beq_eq_false_iff_ne]; omega
  have k2 : (h.kind == 2) = false := by rw [beq_eq_false_iff_ne]; omega
  have k3 : (h.kind == 3) = false := by rw [beq_eq_false_iff_ne]; omega
  have k4 : (h.kind == 4) = false := by rw [beq_eq_false_iff_ne]; omega
  have k5 : (h.kind == 5) = false := by rw [beq_eq_false_iff_ne]; omega
  have k6 : (h.kind == 6) = false := by rw [beq_eq_false_iff_ne]; omega
  have k7 : (h.kind == 7) = false := by rw [beq_eq_false_iff_ne]; omega
  have k8 : (h.kind == 8) = true := by rw [beq_iff_eq]; omega
  have HB : Hid (Below w.heap.size w (w.alloc (.cells #[.int .i64 h.kind, .int .i64 h.num, .string (bs h.text), .slice ka n c, .int .i64 h.pl] 35))) := (Below.refl _ _).alloc (Nat.le_refl _) _
  clear hk
  have b0 : (h.num == 0) = decide (h.num = 0) := rfl
  have b1 : ((bs h.text).toList == []) = decide (h.text = []) := emptyT _
  have b2 : decide ((1 : Int) ≤ (n : Int)) = decide (1 ≤ n) := by rw [Bool.eq_iff_iff]; simp; omega
  have b3 : decide ((n : Int) ≤ 8) = decide (n ≤ 8) := by rw [Bool.eq_iff_iff]; simp; omega
  generalize decide (h.num = 0) = v0 at *
  generalize decide (h.text = []) = v1 at *
  generalize decide (1 ≤ n) = v2 at *
  generalize decide (n ≤ 8) = v3 at *
  cases v0 <;> cases v1 <;> cases v2 <;> cases v3 <;> (
    go_enter Try.func78, Try.ntmps78
    go_wp2
    go_ret
    exact ⟨rfl, HB.out⟩)
set_option maxRecDepth 20000 in
set_option maxHeartbeats 4000000 in
theorem head_many9 (h : Hd) (ka : Option Addr) (n c : Nat) (w : World) (hn : n ≤ maxLen) (hk : h.kind = 9) :
    Calls Try.prog 78 #[.agg #[.int .i64 h.kind, .int .i64 h.num, .string (bs h.text), .slice ka n c, .int .i64 h.pl]] w fun e w' => e = .returned (.bool (decide (h.num = 0) && (decide (h.text = []) && (decide (1 ≤ n) && decide (n ≤ 8))))) ∧ Below w.heap.size w w' := by
  unfold maxLen at hn
  have k1 : (h.kind == 1) = false := by rw [beq_eq_false_iff_ne]; omega
  have k2 : (h.kind == 2) = false := by rw [beq_eq_false_iff_ne]; omega
  have k3 : (h.kind == 3) = false := by rw [beq_eq_false_iff_ne]; omega
  have k4 : (h.kind == 4) = false := by rw [beq_eq_false_iff_ne]; omega
  have k5 : (h.kind == 5) = false := by rw [beq_eq_false_iff_ne]; omega
  have k6 : (h.kind == 6) = false := by rw [beq_eq_false_iff_ne]; omega
  have k7 : (h.kind == 7) = false := by rw [beq_eq_false_iff_ne]; omega
  have k8 : (h.kind == 8) = false := by rw [beq_eq_false_iff_ne]; omega
  have k9 : (h.kind == 9) = true := by rw [beq_iff_eq]; omega
  have HB : Hid (Below w.heap.size w (w.alloc (.cells #[.int .i64 h.kind, .int .i64 h.num, .string (bs h.text), .slice ka n c, .int .i64 h.pl] 35))) := (Below.refl _ _).alloc (Nat.le_refl _) _
  clear hk
  have b0 : (h.num == 0) = decide (h.num = 0) := rfl
  have b1 : ((bs h.text).toList == []) = decide (h.text = []) := emptyT _
  have b2 : decide ((1 : Int) ≤ (n : Int)) = decide (1 ≤ n) := by rw [Bool.eq_iff_iff]; simp; omega
  have b3 : decide ((n : Int) ≤ 8) = decide (n ≤ 8) := by rw [Bool.eq_iff_iff]; simp; omega
  generalize decide (h.num = 0) = v0 at *
  generalize decide (h.text = []) = v1 at *
  generalize decide (1 ≤ n) = v2 at *
  generalize decide (n ≤ 8) = v3 at *
  cases v0 <;> cases v1 <;> cases v2 <;> cases v3 <;> (
    go_enter Try.func78, Try.ntmps78
    go_wp2
    go_ret
    exact ⟨rfl, HB.out⟩)
set_option maxRecDepth 20000 in
set_option maxHeartbeats 4000000 in
theorem head_name (h : Hd) (ka : Option Addr) (n c : Nat) (w : World) (hk : h.kind = 2) :
    Calls Try.prog 78 #[.agg #[.int .i64 h.kind, .int .i64 h.num, .string (bs h.text), .slice ka n c, .int .i64 h.pl]] w fun e w' => e = .returned (.bool (decide (h.num = 0) && (nameB h.text && decide (n = 0)))) ∧ Below w.heap.size w w' := by
  have HC : Hid (∀ w, Calls Try.prog 50 #[.string (bs h.text)] w fun e w' => e = .returned (.bool (nameB h.text)) ∧ Below w.heap.size w w') := fun w => by
    have := isName_calls (bs h.text) w
    rw [bs_list] at this; exact this
  have k1 : (h.kind == 1) = false := by rw [beq_eq_false_iff_ne]; omega
  have k2 : (h.kind == 2) = true := by rw [beq_iff_eq]; omega
  clear hk
  have b0 : (h.num == 0) = decide (h.num = 0) := rfl
  have b3 : ((n : Int) == 0) = decide (n = 0) := natB n 0
  generalize decide (h.num = 0) = v0 at *
  generalize decide (n = 0) = v3 at *
  generalize nameB h.text = v1 at *
  have hbx : Below w.heap.size w (w.alloc (.cells #[.int .i64 h.kind, .int .i64 h.num, .string (bs h.text), .slice ka n c, .int .i64 h.pl] 35)) := (Below.refl _ _).alloc (Nat.le_refl _) _
  have hnw := heap_alloc_new w (.cells #[.int .i64 h.kind, .int .i64 h.num, .string (bs h.text), .slice ka n c, .int .i64 h.pl] 35)
  have HB : Hid (Below w.heap.size w (w.alloc (.cells #[.int .i64 h.kind, .int .i64 h.num, .string (bs h.text), .slice ka n c, .int .i64 h.pl] 35)) ∧ (w.alloc (.cells #[.int .i64 h.kind, .int .i64 h.num, .string (bs h.text), .slice ka n c, .int .i64 h.pl] 35)).heap[w.heap.size]? = some (.cells #[.int .i64 h.kind, .int .i64 h.num, .string (bs h.text), .slice ka n c, .int .i64 h.pl] 35 (0, 0))) := ⟨hbx, hnw⟩
  clear hbx hnw
  cases v0 with
  | false =>
    go_enter Try.func78, Try.ntmps78
    go_wp2
    go_ret
    exact ⟨rfl, HB.out.1⟩
  | true =>
    cases v1 <;> cases v3 <;> (
      go_enter Try.func78, Try.ntmps78
      go_wp2_with fail
      refine (HC.out _).mono ?_
      rintro e w2 ⟨rfl, hb2⟩
      have hk3 : w2.heap[w.heap.size]? = some (.cells #[.int .i64 h.kind, .int .i64 h.num, .string (bs h.text), .slice ka n c, .int .i64 h.pl] 35 (0, 0)) := by rw [hb2.block _ (lt_block HB.out.2)]; exact HB.out.2
      have c3 := blk (i := 3) hk3 rfl
      have HB2 : Hid (Below w.heap.size w w2) := HB.out.1.trans (hb2.mono HB.out.1.size)
      clear hk3 hb2 HC HB
      go_wp2
      go_ret
      exact ⟨rfl, HB2.out⟩)
set_option maxRecDepth 20000 in
set_option maxHeartbeats 4000000 in
theorem head_text (h : Hd) (ka : Option Addr) (n c : Nat) (w : World) (ht : h.text.length ≤ maxLen) (hk : h.kind = 3) :
    Calls Try.prog 78 #[.agg #[.int .i64 h.kind, .int .i64 h.num, .string (bs h.text), .slice ka n c, .int .i64 h.pl]] w fun e w' => e = .returned (.bool (decide (h.num = 0) && (txB h.text && decide (n = 0)))) ∧ Below w.heap.size w w' := by
  have HC : Hid (∀ w, Calls Try.prog 91 #[.string (bs h.text)] w fun e w' => e = .returned (.bool (txB h.text)) ∧ Below w.heap.size w w') := fun w => by
    have := isTextP_calls (bs h.text) w (by rw [bs_size]; exact ht)
    rw [bs_list] at this; exact this
  have k1 : (h.kind == 1) = false := by rw [beq_eq_false_iff_ne]; omega
  have k2 : (h.kind == 2) = false := by rw [beq_eq_false_iff_ne]; omega
  have k3 : (h.kind == 3) = true := by rw [beq_iff_eq]; omega
  clear hk
  have b0 : (h.num == 0) = decide (h.num = 0) := rfl
  have b3 : ((n : Int) == 0) = decide (n = 0) := natB n 0
  generalize decide (h.num = 0) = v0 at *
  generalize decide (n = 0) = v3 at *
  generalize txB h.text = v1 at *
  have hbx : Below w.heap.size w (w.alloc (.cells #[.int .i64 h.kind, .int .i64 h.num, .string (bs h.text), .slice ka n c, .int .i64 h.pl] 35)) := (Below.refl _ _).alloc (Nat.le_refl _) _
  have hnw := heap_alloc_new w (.cells #[.int .i64 h.kind, .int .i64 h.num, .string (bs h.text), .slice ka n c, .int .i64 h.pl] 35)
  have HB : Hid (Below w.heap.size w (w.alloc (.cells #[.int .i64 h.kind, .int .i64 h.num, .string (bs h.text), .slice ka n c, .int .i64 h.pl] 35)) ∧ (w.alloc (.cells #[.int .i64 h.kind, .int .i64 h.num, .string (bs h.text), .slice ka n c, .int .i64 h.pl] 35)).heap[w.heap.size]? = some (.cells #[.int .i64 h.kind, .int .i64 h.num, .string (bs h.text), .slice ka n c, .int .i64 h.pl] 35 (0, 0))) := ⟨hbx, hnw⟩
  clear hbx hnw
  cases v0 with
  | false =>
    go_enter Try.func78, Try.ntmps78
    go_wp2
    go_ret
    exact ⟨rfl, HB.out.1⟩
  | true =>
    cases v1 <;> cases v3 <;> (
      go_enter Try.func78, Try.ntmps78
      go_wp2_with fail
      refine (HC.out _).mono ?_
      rintro e w2 ⟨rfl, hb2⟩
      have hk3 : w2.heap[w.heap.size]? = some (.cells #[.int .i64 h.kind, .int .i64 h.num, .string (bs h.text), .slice ka n c, .int .i64 h.pl] 35 (0, 0)) := by rw [hb2.block _ (lt_block HB.out.2)]; exact HB.out.2
      have c3 := blk (i := 3) hk3 rfl
      have HB2 : Hid (Below w.heap.size w w2) := HB.out.1.trans (hb2.mono HB.out.1.size)
      clear hk3 hb2 HC HB
      go_wp2
      go_ret
      exact ⟨rfl, HB2.out⟩)
set_option maxRecDepth 20000 in
set_option maxHeartbeats 4000000 in
theorem head_none (h : Hd) (ka : Option Addr) (n c : Nat) (w : World) (hk : ¬ (1 ≤ h.kind ∧ h.kind ≤ 9)) :
    Calls Try.prog 78 #[.agg #[.int .i64 h.kind, .int .i64 h.num, .string (bs h.text), .slice ka n c, .int .i64 h.pl]] w fun e w' => e = .returned (.bool false) ∧ Below w.heap.size w w' := by
  have k1 : (h.kind == 1) = false := by rw [beq_eq_false_iff_ne]; omega
  have k2 : (h.kind == 2) = false := by rw [beq_eq_false_iff_ne]; omega
  have k3 : (h.kind == 3) = false := by rw [beq_eq_false_iff_ne]; omega
  have k4 : (h.kind == 4) = false := by rw [beq_eq_false_iff_ne]; omega
  have k5 : (h.kind == 5) = false := by rw [beq_eq_false_iff_ne]; omega
  have k6 : (h.kind == 6) = false := by rw [beq_eq_false_iff_ne]; omega
  have k7 : (h.kind == 7) = false := by rw [beq_eq_false_iff_ne]; omega
  have k8 : (h.kind == 8) = false := by rw [beq_eq_false_iff_ne]; omega
  have k9 : (h.kind == 9) = false := by rw [beq_eq_false_iff_ne]; omega
  have HB : Hid (Below w.heap.size w (w.alloc (.cells #[.int .i64 h.kind, .int .i64 h.num, .string (bs h.text), .slice ka n c, .int .i64 h.pl] 35))) := (Below.refl _ _).alloc (Nat.le_refl _) _
  clear hk
  go_enter Try.func78, Try.ntmps78
  go_wp2
  go_ret
  exact ⟨rfl, HB.out⟩
theorem head_calls (h : Hd) (ka : Option Addr) (n c : Nat) (w : World) (hn : n ≤ maxLen) (ht : h.text.length ≤ maxLen) :
    Calls Try.prog 78 #[.agg #[.int .i64 h.kind, .int .i64 h.num, .string (bs h.text), .slice ka n c, .int .i64 h.pl]] w fun e w' => e = .returned (.bool (hdRight h n)) ∧ Below w.heap.size w w' := by
  unfold hdRight
  by_cases h1 : h.kind = 1
  · rw [if_pos h1]; exact head_num h ka n c w h1
  · rw [if_neg h1]
    by_cases h2 : h.kind = 2
    · rw [if_pos h2]; exact head_name h ka n c w h2
    · rw [if_neg h2]
      by_cases h3 : h.kind = 3
      · rw [if_pos h3]; exact head_text h ka n c w ht h3
      · rw [if_neg h3]
        by_cases h4 : h.kind = 4
        · rw [if_pos h4]; exact head_neg h ka n c w h4
        · rw [if_neg h4]
          by_cases h5 : h.kind = 5 ∨ h.kind = 6 ∨ h.kind = 7
          · rw [if_pos h5]
            rcases h5 with h5 | h5 | h5
            · exact head_two5 h ka n c w h5
            · exact head_two6 h ka n c w h5
            · exact head_two7 h ka n c w h5
          · rw [if_neg h5]
            by_cases h8 : h.kind = 8 ∨ h.kind = 9
            · rw [if_pos h8]
              rcases h8 with h8 | h8
              · exact head_many8 h ka n c w hn h8
              · exact head_many9 h ka n c w hn h8
            · rw [if_neg h8]
              exact head_none h ka n c w (by omega)

end Go.Proofs.Ytnnmhmlebffacaa
