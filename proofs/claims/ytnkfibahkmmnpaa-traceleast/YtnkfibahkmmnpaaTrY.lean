/-
  Counts of columns, End; the statements' own small.
-/
import Derived.Test.YtnkfibahkmmnpaaTrX
import Derived.Test.YtnkfibahkmmnpaaVuC
import Derived.Shelf.Strings.Count
namespace Go.Proofs.Ytnkfibahkmmnpaa
open Go.RowKit

set_option maxRecDepth 20000 in
set_option maxHeartbeats 1000000 in
theorem count_calls (s : ByteArray) (c : UInt8) (w : World) :
    Calls Try.prog 16 #[.string s, .string ⟨#[c]⟩] w fun e w' => e = .returned (.int .i64 (Lib.countByte s.data.toList c)) ∧ w' = w := by
  go_enter Try.func16, Try.ntmps16
  go_wp2
  rw [run_callFunc_extern Try.func30 (by kernel_rfl) (by kernel_rfl) (by kernel_rfl) (e := Extern.BytealgCount.count) (by kernel_rfl), Lib.run_countString]
  simp only [Result.andThen]
  rw [Oper.upon_value]
  go_wp2
  go_ret
  exact ⟨rfl, rfl⟩
set_option maxRecDepth 10000 in
theorem tend_calls (I J : Int) (s : ByteArray) (w : World) :
    Calls Try.prog 7 #[.agg #[.int .i64 I, .int .i64 J, .string s]] w fun e w' => e = .returned (.tuple #[.int .i64 (wrap64 (wrap64 (I + Lib.countByte s.data.toList 77) + Lib.countByte s.data.toList 68)), .int .i64 (wrap64 (wrap64 (J + Lib.countByte s.data.toList 77) + Lib.countByte s.data.toList 73))]) ∧ Below w.heap.size w w' := by
  have HC : Hid (∀ (c : UInt8) (W : World), Calls Try.prog 16 #[.string s, .string ⟨#[c]⟩] W fun e w' => e = .returned (.int .i64 (Lib.countByte s.data.toList c)) ∧ w' = W) := fun c W => count_calls s c W
  generalize s.data.toList = l at *
  go_enter Try.func7, Try.ntmps7
  go_wp2_with fail
  refine (HC.out 77 _).mono ?_
  rintro e w1 ⟨rfl, rfl⟩
  go_upto_region 2 with (fail)
  go_quiet ((go_at_call 16; exact Calls.quiet_of_same (HC.out _ _)))
  go_wp2
  go_ret2
  exact ⟨rfl, below_drewN (below_new _) _⟩
set_option maxRecDepth 10000 in
set_option maxHeartbeats 2000000 in
theorem small_calls (c : Cd) (s : Ls) (sx sy : Sl) (x y : List Int) (w : World) (h : CdAt w c s) (hx : IntsAt w sx.a sx.n x) (hy : IntsAt w sy.a sy.n y) :
    Calls Try.prog 9 #[.agg (cdCells c s), .slice sx.a sx.n sx.c, .slice sy.a sy.n sy.c] w fun e w' => (∃ b, e = .returned (.bool b)) ∧ Below w.heap.size w w' := by
  have h1 := h.table.short
  have h2 := h.consts.short
  have h3 := h.cell.short
  have h4 := h.arrows.short
  have h5 := hx.short
  have h6 := hy.short
  unfold maxLen at h1 h2 h3 h4 h5 h6
  clear h hx hy
  obtain ⟨⟨ta, tn, tc⟩, ⟨ka, kn, kc⟩, ⟨ia, n3, ic⟩, ⟨ra, rn, rc⟩⟩ := s
  obtain ⟨xa, xn, xc⟩ := sx
  obtain ⟨ya, yn, yc⟩ := sy
  simp only at h1 h2 h3 h4 h5 h6
  simp only [cdCells]
  by_cases a0 : 2147483647 < tn
  · have d0 : decide ((2147483647 : Int) < (tn : Int)) = true := by simp; omega
    go_enter Try.func9, Try.ntmps9
    go_wp2
    go_ret
    exact ⟨⟨_, rfl⟩, below_new _⟩
  have d0 : decide ((2147483647 : Int) < (tn : Int)) = false := by simp; omega
  by_cases a1 : 2147483647 < kn
  · have d1 : decide ((2147483647 : Int) < (kn : Int)) = true := by simp; omega
    go_enter Try.func9, Try.ntmps9
    go_wp2
    go_ret
    exact ⟨⟨_, rfl⟩, below_new _⟩
  have d1 : decide ((2147483647 : Int) < (kn : Int)) = false := by simp; omega
  by_cases a2 : 2147483647 < n3
  · have d2 : decide ((2147483647 : Int) < (n3 : Int)) = true := by simp; omega
    go_enter Try.func9, Try.ntmps9
    go_wp2
    go_ret
    exact ⟨⟨_, rfl⟩, below_new _⟩
  have d2 : decide ((2147483647 : Int) < (n3 : Int)) = false := by simp; omega
  by_cases a3 : 2147483647 < rn
  · have d3 : decide ((2147483647 : Int) < (rn : Int)) = true := by simp; omega
    go_enter Try.func9, Try.ntmps9
    go_wp2
    go_ret
    exact ⟨⟨_, rfl⟩, below_new _⟩
  have d3 : decide ((2147483647 : Int) < (rn : Int)) = false := by simp; omega
  by_cases a4 : 2147483647 < xn
  · have d4 : decide ((2147483647 : Int) < (xn : Int)) = true := by simp; omega
    go_enter Try.func9, Try.ntmps9
    go_wp2
    go_ret
    exact ⟨⟨_, rfl⟩, below_new _⟩
  have d4 : decide ((2147483647 : Int) < (xn : Int)) = false := by simp; omega
  by_cases a5 : 2147483647 < yn
  · have d5 : decide ((2147483647 : Int) < (yn : Int)) = true := by simp; omega
    go_enter Try.func9, Try.ntmps9
    go_wp2
    go_ret
    exact ⟨⟨_, rfl⟩, below_new _⟩
  have d5 : decide ((2147483647 : Int) < (yn : Int)) = false := by simp; omega
  by_cases b1 : 65536 < xn
  · have d6 : decide ((65536 : Int) < (xn : Int)) = true := by simp; omega
    clear b1
    go_enter Try.func9, Try.ntmps9
    go_wp2
    go_ret
    exact ⟨⟨_, rfl⟩, below_new _⟩
  have d6 : decide ((65536 : Int) < (xn : Int)) = false := by simp; omega
  by_cases b2 : 65536 < yn
  · have d7 : decide ((65536 : Int) < (yn : Int)) = true := by simp; omega
    clear b2
    go_enter Try.func9, Try.ntmps9
    go_wp2
    go_ret
    exact ⟨⟨_, rfl⟩, below_new _⟩
  have d7 : decide ((65536 : Int) < (yn : Int)) = false := by simp; omega
  obtain ⟨N, hN⟩ : ∃ N : Int, ((xn : Int) + 1) * ((yn : Int) + 1) = N := ⟨_, rfl⟩
  have hN1 : 0 ≤ N ∧ N ≤ 65537 * 65537 := by
    rw [← hN]
    exact ⟨Int.mul_nonneg (by omega) (by omega), Int.mul_le_mul (by omega) (by omega) (by omega) (by omega)⟩
  have hN2 := hN1.1
  have hN3 : N ≤ 4295098369 := hN1.2
  clear hN1
  have hx65 : (xn : Int) ≤ 65536 := by omega
  have hy65 : (yn : Int) ≤ 65536 := by omega
  have hn3 : (n3 : Int) ≤ 2147483647 := by omega
  by_cases b3 : (1048576 : Int) < N
  · have d8 : decide ((1048576 : Int) < N) = true := by simpa using b3
    clear b1 b2 b3 a0 a1 a2 a3 a4 a5
    go_enter Try.func9, Try.ntmps9
    go_wp2
    go_ret
    exact ⟨⟨_, rfl⟩, below_new _⟩
  have d8 : decide ((1048576 : Int) < N) = false := by simpa using b3
  clear b1 b2 b3 a0 a1 a2 a3 a4 a5
  go_enter Try.func9, Try.ntmps9
  go_wp2
  go_ret
  exact ⟨⟨_, rfl⟩, below_new _⟩
end Go.Proofs.Ytnkfibahkmmnpaa
