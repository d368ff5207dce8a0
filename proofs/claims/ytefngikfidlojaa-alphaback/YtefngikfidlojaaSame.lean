/-
  The walk of helixlaw01.same: whether two lists of numbers are alike.
-/
import Derived.Test.YtefngikfidlojaaRefs
namespace Go.Proofs.Ytefngikfidlojaa
open Go.RowKit

def alike (xs ys : List Int) : Bool := decide (xs = ys)
theorem alike_refl (xs : List Int) : alike xs xs = true := by simp [alike]
theorem alike_len (xs ys : List Int) (h : xs.length ≠ ys.length) : alike xs ys = false := by
  simp only [alike, decide_eq_false_iff_not]
  intro e; exact h (by rw [e])
theorem alike_at (xs ys : List Int) (k : Nat) (h : xs.getD k 0 ≠ ys.getD k 0) : alike xs ys = false := by
  simp only [alike, decide_eq_false_iff_not]
  intro e; exact h (by rw [e])
theorem alike_all (xs ys : List Int) (hl : xs.length = ys.length) (h : ∀ j, j < xs.length → xs.getD j 0 = ys.getD j 0) : alike xs ys = true := by
  simp only [alike, decide_eq_true_eq]
  apply List.ext_getElem hl
  intro i h1 h2
  have := h i h1
  simpa [List.getD, List.getElem?_eq_getElem h1, List.getElem?_eq_getElem h2] using this

set_option maxHeartbeats 1000000 in
theorem same_calls (ao bo : Option Addr) (la ca lb cb : Nat) (xs ys : List Int) (w : World) (hx : IntsAt w ao la xs) (hy : IntsAt w bo lb ys) :
    Calls Try.prog 18 #[.slice ao la ca, .slice bo lb cb] w fun e w' => e = .returned (.bool (alike xs ys)) ∧ ∃ n, w' = w.drewN n := by
  have hma := hx.short
  have hmb := hy.short
  unfold maxLen at hma hmb
  have HX : Hid (IntsAt w ao la xs) := hx
  have HY : Hid (IntsAt w bo lb ys) := hy
  clear hx hy
  by_cases hne : la = lb
  · subst hne
    have hb : ((la : Int) != (la : Int)) = false := by simp
    by_cases h0 : 0 < la
    · obtain ⟨b1, o1, rfl, hc1⟩ := HX.out.cells h0
      obtain ⟨b2, o2, rfl, hc2⟩ := HY.out.cells h0
      have HC1 : Hid (∀ i, i < la → w.cell? ⟨b1, o1 + i, none⟩ = some (.int .i64 (xs.getD i 0))) := hc1
      have HC2 : Hid (∀ i, i < la → w.cell? ⟨b2, o2 + i, none⟩ = some (.int .i64 (ys.getD i 0))) := hc2
      clear hc1 hc2
      go_enter Try.func18, Try.ntmps18
      go_wp2
      go_loopw [5] (fun i wr => ∃ k : Nat, k ≤ la ∧ i = .int .i64 k ∧ (∀ j, j < k → xs.getD j 0 = ys.getD j 0) ∧ ∃ n, wr = w.drewN n) (fun i _ => la - (intOf i).toNat)
      case atStart => exact ⟨0, Nat.zero_le _, rfl, fun j hj => by omega, 0, rfl⟩
      case round =>
        obtain ⟨k, hk, rfl, hall, hdr⟩ := hrel
        have HA : Hid (∀ j, j < k → xs.getD j 0 = ys.getD j 0) := hall
        have HD : Hid (∃ n, wr = w.drewN n) := hdr
        have hcell : ∀ a, wr.cell? a = w.cell? a := by obtain ⟨n, rfl⟩ := hdr; intro a; rfl
        clear hall hdr
        by_cases hlt : k < la
        · have c1 : wr.cell? ⟨b1, o1 + k, none⟩ = some (.int .i64 (xs.getD k 0)) := (hcell _).trans (HC1.out k hlt)
          have c2 : wr.cell? ⟨b2, o2 + k, none⟩ = some (.int .i64 (ys.getD k 0)) := (hcell _).trans (HC2.out k hlt)
          clear hcell
          generalize hx : xs.getD k 0 = x at c1
          generalize hy : ys.getD k 0 = y at c2
          have EX : Hid (xs.getD k 0 = x) := hx
          have EY : Hid (ys.getD k 0 = y) := hy
          clear hx hy
          by_cases hxy : x = y
          · subst hxy
            have hbb : (x != x) = false := by simp
            go_wp2_with fail
            go_quiet (fail)
            go_wp2
            go_roundw
            case rel =>
              refine ⟨k + 1, by omega, by go_num, ?_, drew_more HD.out nq⟩
              intro j hj
              by_cases e : j = k
              · subst e; rw [EX.out, EY.out]
              · exact HA.out j (by omega)
            case measure => simp [intOf]; omega
          · have hbb : (x != y) = true := by simpa using hxy
            have HXY : Hid (x ≠ y) := hxy
            clear hxy
            go_wp2_with fail
            go_quiet (fail)
            go_wp2
            go_ret
            exact ⟨ret_bool (alike_at xs ys k (by rw [EX.out, EY.out]; exact HXY.out)).symm, drew_more HD.out nq⟩
        · clear hcell
          go_wp2
          go_ret
          exact ⟨ret_bool (alike_all xs ys (by rw [HX.out.length, HY.out.length]) (fun j hj => HA.out j (by rw [HX.out.length] at hj; omega))).symm, HD.out⟩
    · have hla : la = 0 := by omega
      subst hla
      go_enter Try.func18, Try.ntmps18
      go_wp2
      go_loopw [5] (fun i wr => i = .int .i64 0 ∧ wr = w) (fun _ _ => 0)
      case atStart => exact ⟨rfl, rfl⟩
      case round =>
        obtain ⟨rfl, rfl⟩ := hrel
        go_wp2
        go_ret
        exact ⟨ret_bool (alike_all xs ys (by rw [HX.out.length, HY.out.length]) (fun j hj => by rw [HX.out.length] at hj; omega)).symm, 0, rfl⟩
  · have hb : ((la : Int) != (lb : Int)) = true := by rw [bne_iff_ne]; omega
    have HNE : Hid (xs.length ≠ ys.length) := by rw [HX.out.length, HY.out.length]; exact hne
    clear hne
    go_enter Try.func18, Try.ntmps18
    go_wp2
    go_ret
    exact ⟨ret_bool (alike_len xs ys HNE.out).symm, 0, rfl⟩
end Go.Proofs.Ytefngikfidlojaa
