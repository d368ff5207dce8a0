/-
  The walk of allKept; the look as it is made.
-/
import Derived.Test.YtnkfibahkmmnpaaKi
namespace Go.Proofs.Ytnkfibahkmmnpaa
open Go.RowKit

set_option maxRecDepth 10000 in
set_option maxHeartbeats 1000000 in
theorem allKept_calls {w0 w : World} {b : Nat} {c : Cd} {s : Ls} {S : St} {wv : Nat → Value} (h : Lk w0 w b c s S wv) (n : Nat) (hp : c.planes = n) (hn : n ≤ 10) :
    Calls Try.prog 57 #[.pointer (some ⟨b, 0, none⟩)] w fun e w' => e = .returned (.bool (allK S n)) ∧ Below w.heap.size w w' := by
  have c1 := h.code 1 (by omega) (v := .int .i64 c.planes) rfl
  rw [hp] at c1
  have HL : Hid (Lk w0 w b c s S wv) := h
  have hn' : (n : Int) ≤ 10 := by omega
  clear h hp
  go_enter Try.func57, Try.ntmps57
  go_wp2_with fail
  go_quiet (fail)
  go_wp2
  go_loopw [4, 15] (fun _ i wr => ∃ k : Nat, k ≤ n ∧ i = .int .i64 k ∧ (∀ j, j < k → (S.pl j).1 = true) ∧ Below w.heap.size w wr) (fun _ i _ => n - (intOf i).toNat)
  case atStart => exact ⟨0, Nat.zero_le _, rfl, fun j hj => by omega, below_drewN (Below.refl _ _) nq⟩
  case round =>
    obtain ⟨k, hk, rfl, hall, hbx⟩ := hrel
    have HA : Hid (∀ j, j < k → (S.pl j).1 = true) := hall
    have HX : Hid (Below w.heap.size w wr) := hbx
    clear hall hbx c1
    by_cases hlt : k < n
    · have p0 := (HL.out.next HX.out).pl0 k (by omega)
      have p1 := (HL.out.next HX.out).pl1 k (by omega)
      obtain ⟨v, hv⟩ : ∃ v, (S.pl k).1 = v := ⟨_, rfl⟩
      have HV : Hid ((S.pl k).1 = v) := hv
      rw [hv] at p0
      clear hv
      cases v
      · go_wp2
        go_ret
        refine ⟨ret_bool ?_, HX.out.alloc HX.out.size _⟩
        cases e : allK S n with
        | false => rfl
        | true =>
          have := List.all_eq_true.1 e k (List.mem_range.2 hlt)
          rw [HV.out] at this; cases this
      · go_wp2
        go_roundw
        case rel =>
          refine ⟨k + 1, by omega, by go_num, fun j hj => ?_, HX.out.alloc HX.out.size _⟩
          by_cases e : j = k
          · subst e; exact HV.out
          · exact HA.out j (by omega)
        case measure => simp [intOf]; omega
    · have HE : Hid (allK S n = true) := List.all_eq_true.2 fun j hj => HA.out j (by have := List.mem_range.1 hj; omega)
      go_wp2
      go_ret
      exact ⟨ret_bool HE.out.symm, HX.out⟩

def zLk : Array Value := lkCells ⟨0, 0, 0, 0, 0, 0, [], [], [], []⟩ ⟨⟨none, 0, 0⟩, ⟨none, 0, 0⟩, ⟨none, 0, 0⟩, ⟨none, 0, 0⟩⟩ (st0 0) fun _ => .slice none 0 0
theorem zero54 : (∀ w, (zeroValue 130).run Try.prog w = .ok (.agg zLk) w) ∧ (Try.prog.info? 130).map (·.size) = some 143 := zero_of_info (by kernel_rfl)
theorem zLk_size : zLk.size = 143 := lk_size _ _ _ _
theorem zLk_set (c : Cd) (s : Ls) : ((((((((((zLk.setIfInBounds 0 (.int .i64 c.letters)).setIfInBounds 1 (.int .i64 c.planes)).setIfInBounds 2 (.int .i64 c.regs)).setIfInBounds 3 (.int .i64 c.lo)).setIfInBounds 4 (.int .i64 c.hi)).setIfInBounds 5 (.int .i64 c.most)).setIfInBounds 6 (.slice s.t.a s.t.n s.t.c)).setIfInBounds 7 (.slice s.k.a s.k.n s.k.c)).setIfInBounds 8 (.slice s.i.a s.i.n s.i.c)).setIfInBounds 9 (.slice s.r.a s.r.n s.r.c)) = lkCells c s (st0 0) fun _ => .slice none 0 0 := by
  apply Array.ext_getElem?
  intro j
  by_cases hj : j < 143
  · rw [lk_get c s _ _ hj]
    simp only [Array.getElem?_setIfInBounds, Array.size_setIfInBounds, zLk_size]
    by_cases h10 : j < 10
    · have : j = 0 ∨ j = 1 ∨ j = 2 ∨ j = 3 ∨ j = 4 ∨ j = 5 ∨ j = 6 ∨ j = 7 ∨ j = 8 ∨ j = 9 := by omega
      rcases this with rfl | rfl | rfl | rfl | rfl | rfl | rfl | rfl | rfl | rfl <;> rfl
    · rw [if_neg (by omega), if_neg (by omega), if_neg (by omega), if_neg (by omega), if_neg (by omega), if_neg (by omega), if_neg (by omega), if_neg (by omega), if_neg (by omega), if_neg (by omega)]
      rw [zLk, lk_get _ _ _ _ hj]
      unfold lkF
      rw [if_neg h10, if_neg h10]
  · rw [Array.getElem?_eq_none (by simp [zLk_size]; omega), Array.getElem?_eq_none (by rw [lk_size]; omega)]
theorem lk_one (c : Cd) (s : Ls) : (lkCells c s (st0 0) fun _ => .slice none 0 0).all (·.oneCell') = true := by
  refine Array.all_eq_true.2 fun j hj => ?_
  rw [lk_size] at hj
  have e := lk_get c s (st0 0) (fun _ => .slice none 0 0) hj
  rw [Array.getElem?_eq_getElem (by rw [lk_size]; exact hj)] at e
  rw [Option.some.inj e]
  unfold lkF
  split
  · rename_i h10
    have : j = 0 ∨ j = 1 ∨ j = 2 ∨ j = 3 ∨ j = 4 ∨ j = 5 ∨ j = 6 ∨ j = 7 ∨ j = 8 ∨ j = 9 := by omega
    rcases this with rfl | rfl | rfl | rfl | rfl | rfl | rfl | rfl | rfl | rfl <;> rfl
  split
  · unfold rgCell
    split
    · rfl
    split
    · rfl
    split
    · rfl
    split
    · rfl
    split
    · rfl
    split
    · rfl
    · rfl
  split
  · split <;> rfl
  · rfl
theorem Lk.start {w0 w1 : World} {c : Cd} {s : Ls} (h : CdAt w0 c s) (hb : Below w0.heap.size w0 w1) : Lk w0 (w1.alloc (.cells (lkCells c s (st0 0) fun _ => .slice none 0 0) 130)) w1.heap.size c s (st0 0) fun _ => .slice none 0 0 :=
  ⟨heap_alloc_new _ _, h, hb.alloc hb.size _, hb.size, fun _ _ => own_nil _ _ _, fun _ _ _ _ _ => .inl rfl⟩
theorem chk0 {c : Cd} (h : rightB c = false) : chkB c = (-1, 160) := by rw [chkB, if_pos h]
theorem chk1 {c : Cd} (h : rightB c = true) (h1 : arsB c = false) : chkB c = (-1, 161) := by rw [chkB, if_neg (by rw [h]; decide), if_pos h1]
theorem chk2 {c : Cd} (h : rightB c = true) (h1 : arsB c = true) (h2 : (goP c (st0 0) 0 c.cell).1.2 ≠ 0) : chkB c = (goP c (st0 0) 0 c.cell).1 := by
  rw [chkB, if_neg (by rw [h]; decide), if_neg (by rw [h1]; decide), if_pos h2]
theorem chk3 {c : Cd} (h : rightB c = true) (h1 : arsB c = true) (h2 : (goP c (st0 0) 0 c.cell).1.2 = 0) (h3 : allK (goP c (st0 0) 0 c.cell).2 c.planes.toNat = false) : chkB c = (-1, 164) := by
  rw [chkB, if_neg (by rw [h]; decide), if_neg (by rw [h1]; decide), if_neg (by rw [h2]; decide), if_pos h3]
theorem chk4 {c : Cd} (h : rightB c = true) (h1 : arsB c = true) (h2 : (goP c (st0 0) 0 c.cell).1.2 = 0) (h3 : allK (goP c (st0 0) 0 c.cell).2 c.planes.toNat = true) (r : Bool) (h4 : widB c (goP c (st0 0) 0 c.cell).2.top = r) : chkB c = (-1, if r then 165 else 0) := by
  rw [chkB, if_neg (by rw [h]; decide), if_neg (by rw [h1]; decide), if_neg (by rw [h2]; decide), if_neg (by rw [h3]; decide), h4]
  cases r <;> rfl
theorem tup2 {a b : Int} {p : Int × Int} (h : p = (a, b)) : Ending.returned (.tuple #[.int .i64 a, .int .i64 b]) = .returned (.tuple #[.int .i64 p.1, .int .i64 p.2]) := by rw [h]
end Go.Proofs.Ytnkfibahkmmnpaa
