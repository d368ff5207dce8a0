/-
  The walks of run, between, IsWord, IsName.
-/
import Derived.Test.YtnnmhmlebffacaaCls
namespace Go.Proofs.Ytnnmhmlebffacaa
open Go.RowKit

/-! run -/
theorem run_step {s : List UInt8} {k n : Nat} {c : UInt8} (h : s[k]? = some c) (hc : isPart c = true) (hr : k + (runB (s.drop k)).length = n) : k + 1 + (runB (s.drop (k + 1))).length = n := by
  rw [drop_at h] at hr
  simp [runB, hc] at hr ⊢
  omega
theorem run_stop {s : List UInt8} {k : Nat} {c : UInt8} (h : s[k]? = some c) (hc : isPart c = false) : (runB (s.drop k)).length = 0 := by
  rw [drop_at h]; simp [runB, hc]

theorem run_calls (s : ByteArray) (w : World) :
    Calls Try.prog 57 #[.string s] w fun e w' => e = .returned (.int .i64 ((runB s.data.toList).length : Int)) ∧ Below w.heap.size w w' := by
  go_enter Try.func57, Try.ntmps57
  go_wp2
  go_loopw [] (fun wr => ∃ pos : Nat, pos ≤ s.size ∧ pos + (runB (s.data.toList.drop pos)).length = (runB s.data.toList).length ∧ wr.heap[w.heap.size]? = some (.stringIter s pos) ∧ Below w.heap.size w wr) (fun wr => s.size - wr.iterPos w.heap.size)
  case atStart => exact ⟨0, Nat.zero_le _, by simp, World.iter_heap w s 0, (Below.refl _ _).alloc (Nat.le_refl _) _⟩
  case round =>
    obtain ⟨pos, hp0, hr, hit, hbw⟩ := hrel
    have hpos0 := iterPos_of hit
    have HR : Hid (pos + (runB (s.data.toList.drop pos)).length = (runB s.data.toList).length) := hr
    clear hr
    by_cases hp : pos < s.size
    · obtain ⟨x, d, hnx, hd1, hd2, hx⟩ := next_rune wr w.heap.size s pos hit hp
      have HG : Hid (s.data.toList[pos]? = some s[pos]) := getElem?_at s pos hp
      have hit2 := Lib.iterAt_heap wr w.heap.size s pos (pos + d) hit
      have hbw2 := Lib.below_iterAt hbw (k := w.heap.size) (Nat.le_refl _) s (pos + d)
      obtain ⟨W1, hW1⟩ : ∃ W1, W1 = wr.iterAt w.heap.size s (pos + d) := ⟨_, rfl⟩
      rw [← hW1] at hnx hit2 hbw2
      clear hW1 hit hbw
      have hcl : clsI x = clsB s[pos] := rune_cls (by rcases hx with ⟨h, _⟩ | ⟨h1, h2, _⟩; exact .inl h; exact .inr ⟨h1, h2⟩)
      have hrg := cls_range x
      generalize hcx : clsI x = kx at *
      have HC : Hid (∀ w, Calls Try.prog 55 #[.int .i32 x] w fun e w' => e = .returned (.int .i64 kx) ∧ w' = w) := fun w => by rw [← hcx]; exact class_calls x w
      have HB : Hid (Below w.heap.size w W1) := hbw2
      have HI : Hid (W1.heap[w.heap.size]? = some (.stringIter s (pos + d))) := hit2
      clear hcx hbw2 hit2
      cases hc : isPart s[pos] with
      | false =>
        have hno : ¬ (kx = 4 ∨ kx = 5 ∨ kx = 3 ∨ kx = 6) := by
          rw [hcl, ← cls_part, hc]; simp
        have h4 : (kx == 4) = false := by simp; omega
        have h5 : (kx == 5) = false := by simp; omega
        have h3 : (kx == 3) = false := by simp; omega
        have h6 : (kx == 6) = false := by simp; omega
        have HE : Hid ((pos : Int) = ((runB s.data.toList).length : Int)) := by
          have := HR.out; rw [run_stop HG.out hc] at this
          show _ = _
          omega
        clear hno hcl hx hc HR HG
        go_wp2_with (go_at_call 55; refine (HC.out _).mono ?_; rintro e w' ⟨rfl, rfl⟩)
        go_ret
        exact ⟨ret_int HE.out, HB.out⟩
      | true =>
        obtain rfl : d = 1 := by
          rcases hx with ⟨_, h, _⟩ | ⟨_, h, _⟩
          · exact h
          · rw [high_part h] at hc; cases hc
        have HN : Hid (pos + 1 + (runB (s.data.toList.drop (pos + 1))).length = (runB s.data.toList).length) := run_step HG.out hc HR.out
        have hyes : (kx == 4) = true ∨ ((kx == 4) = false ∧ (kx == 5) = true) ∨ ((kx == 4) = false ∧ (kx == 5) = false ∧ (kx == 3) = true) ∨ ((kx == 4) = false ∧ (kx == 5) = false ∧ (kx == 3) = false ∧ (kx == 6) = true) := by
          have := (cls_part s[pos]).1 hc
          rw [← hcl] at this
          simp only [beq_iff_eq, beq_eq_false_iff_ne, ne_eq]
          omega
        clear hcl hx hc HR HG
        rcases hyes with h1 | ⟨h1, h2⟩ | ⟨h1, h2, h3⟩ | ⟨h1, h2, h3, h4⟩ <;> (
          go_wp2_with (go_at_call 55; refine (HC.out _).mono ?_; rintro e w' ⟨rfl, rfl⟩)
          go_roundw
          case rel => exact ⟨pos + 1, by omega, HN.out, HI.out, HB.out⟩
          case measure => rw [iterPos_of HI.out, hpos0]; omega)
    · have hnx : ∀ ty, (Instr.next (.pointer (some ⟨w.heap.size, 0, none⟩)) true ty).run Try.prog wr = _ := fun ty => Lib.run_next_end_at wr w.heap.size s pos ty hit hp
      have HE : Hid ((s.size : Int) = ((runB s.data.toList).length : Int)) := by
        have := HR.out
        rw [List.drop_eq_nil_of_le (by rw [size_toList]; omega)] at this
        simp [runB] at this
        show _ = _
        simp [runB]; omega
      have HB : Hid (Below w.heap.size w wr) := hbw
      clear hbw HR
      go_wp2
      go_ret
      exact ⟨ret_int HE.out, HB.out⟩
end Go.Proofs.Ytnnmhmlebffacaa
