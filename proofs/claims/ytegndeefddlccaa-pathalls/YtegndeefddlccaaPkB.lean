/-
  Letters; the field of a model and two sequences.
-/
import Derived.Test.YtegndeefddlccaaPkA
namespace Go.Proofs.Ytegndeefddlccaa
open Go.RowKit

def lettersB (L : Int) (zs : List Int) : Bool := zs.all fun n => decide (0 ≤ n ∧ n < L)
theorem lettersB_bad {L : Int} {zs : List Int} (j : Nat) (hj : j < zs.length) (h : zs.getD j 0 < 0 ∨ L ≤ zs.getD j 0) : lettersB L zs = false := by
  unfold lettersB
  rw [List.all_eq_false]
  refine ⟨zs[j], List.getElem_mem hj, ?_⟩
  simp only [List.getD, List.getElem?_eq_getElem hj, Option.getD_some] at h
  simp; omega
theorem lettersB_all {L : Int} {zs : List Int} (h : ∀ j, j < zs.length → 0 ≤ zs.getD j 0 ∧ zs.getD j 0 < L) : lettersB L zs = true := by
  unfold lettersB
  rw [List.all_eq_true]
  intro n hn
  obtain ⟨j, hj, rfl⟩ := List.getElem_of_mem hn
  have := h j hj
  simp only [List.getD, List.getElem?_eq_getElem hj, Option.getD_some] at this
  simp; omega
theorem lettersB_get {L : Int} {zs : List Int} (h : lettersB L zs = true) (j : Nat) (hj : j < zs.length) : 0 ≤ zs.getD j 0 ∧ zs.getD j 0 < L := by
  unfold lettersB at h
  rw [List.all_eq_true] at h
  have := h _ (List.getElem_mem hj)
  simp only [List.getD, List.getElem?_eq_getElem hj, Option.getD_some]
  simpa using this
set_option maxHeartbeats 1000000 in
theorem areLetters_calls (L : Int) (ao : Option Addr) (len cap : Nat) (zs : List Int) (w : World) (hz : IntsAt w ao len zs) :
    Calls Try.prog 44 #[.int .i64 L, .slice ao len cap] w fun e w' => e = .returned (.bool (lettersB L zs)) ∧ w = w' := by
  have hm := hz.short
  unfold maxLen at hm
  have HZ : Hid (IntsAt w ao len zs) := hz
  clear hz
  go_enter Try.func44, Try.ntmps44
  go_wp2
  go_loop [9] (fun i => ∃ k : Nat, k ≤ len ∧ i = .int .i64 k ∧ (∀ j, j < k → 0 ≤ zs.getD j 0 ∧ zs.getD j 0 < L)) (fun i => len - (intOf i).toNat)
  case atStart => exact ⟨0, Nat.zero_le _, rfl, fun j hj => by omega⟩
  case round =>
    obtain ⟨k, hk, rfl, hall⟩ := hrel
    have HA : Hid (∀ j, j < k → 0 ≤ zs.getD j 0 ∧ zs.getD j 0 < L) := hall
    clear hall
    by_cases hlt : k < len
    · obtain ⟨b, off, rfl, hcs⟩ := HZ.out.cells (by omega)
      have hc1 := hcs k hlt
      clear hcs
      generalize hz : zs.getD k 0 = z at hc1
      have HK : Hid (zs.getD k 0 = z) := hz
      clear hz
      by_cases h1 : z < 0
      · have HE : Hid (lettersB L zs = false) := lettersB_bad k (by rw [HZ.out.length]; exact hlt) (by rw [HK.out]; exact Or.inl h1)
        go_wp2
        go_ret
        rw [HE.out]
        exact ⟨rfl, rfl⟩
      · by_cases h2 : L ≤ z
        · have HE : Hid (lettersB L zs = false) := lettersB_bad k (by rw [HZ.out.length]; exact hlt) (by rw [HK.out]; exact Or.inr h2)
          have h2b : decide (L ≤ z) = true := decide_eq_true h2
          go_wp2
          go_ret
          rw [HE.out]
          exact ⟨rfl, rfl⟩
        · have h2b : decide (L ≤ z) = false := decide_eq_false h2
          go_wp2
          go_round
          case rel =>
            refine ⟨k + 1, by omega, by go_num, ?_⟩
            intro j hj
            by_cases e : j = k
            · subst e; rw [HK.out]; omega
            · exact HA.out j (by omega)
          case measure => simp [intOf]; omega
    · have HE : Hid (lettersB L zs = true) := lettersB_all (fun j hj => HA.out j (by rw [HZ.out.length] at hj; omega))
      go_wp2
      go_ret
      rw [HE.out]
      exact ⟨rfl, rfl⟩
set_option maxHeartbeats 1000000 in
theorem lettersR_calls (L : Int) (ao : Option Addr) (len cap : Nat) (zs : List Int) (w : World) (hz : IntsAt w ao len zs) :
    Calls Try.prog 51 #[.slice ao len cap, .int .i64 L] w fun e w' => e = .returned (.bool (lettersB L zs)) ∧ w = w' := by
  have hm := hz.short
  unfold maxLen at hm
  have HZ : Hid (IntsAt w ao len zs) := hz
  clear hz
  go_enter Try.func51, Try.ntmps51
  go_wp2
  go_loop [5] (fun i => ∃ k : Nat, k ≤ len ∧ i = .int .i64 k ∧ (∀ j, j < k → 0 ≤ zs.getD j 0 ∧ zs.getD j 0 < L)) (fun i => len - (intOf i).toNat)
  case atStart => exact ⟨0, Nat.zero_le _, rfl, fun j hj => by omega⟩
  case round =>
    obtain ⟨k, hk, rfl, hall⟩ := hrel
    have HA : Hid (∀ j, j < k → 0 ≤ zs.getD j 0 ∧ zs.getD j 0 < L) := hall
    clear hall
    by_cases hlt : k < len
    · obtain ⟨b, off, rfl, hcs⟩ := HZ.out.cells (by omega)
      have hc1 := hcs k hlt
      clear hcs
      generalize hz : zs.getD k 0 = z at hc1
      have HK : Hid (zs.getD k 0 = z) := hz
      clear hz
      by_cases h1 : z < 0
      · have HE : Hid (lettersB L zs = false) := lettersB_bad k (by rw [HZ.out.length]; exact hlt) (by rw [HK.out]; exact Or.inl h1)
        go_wp2
        go_ret
        rw [HE.out]
        exact ⟨rfl, rfl⟩
      · by_cases h2 : L ≤ z
        · have HE : Hid (lettersB L zs = false) := lettersB_bad k (by rw [HZ.out.length]; exact hlt) (by rw [HK.out]; exact Or.inr h2)
          have h2b : decide (L ≤ z) = true := decide_eq_true h2
          go_wp2
          go_ret
          rw [HE.out]
          exact ⟨rfl, rfl⟩
        · have h2b : decide (L ≤ z) = false := decide_eq_false h2
          go_wp2
          go_round
          case rel =>
            refine ⟨k + 1, by omega, by go_num, ?_⟩
            intro j hj
            by_cases e : j = k
            · subst e; rw [HK.out]; omega
            · exact HA.out j (by omega)
          case measure => simp [intOf]; omega
    · have HE : Hid (lettersB L zs = true) := lettersB_all (fun j hj => HA.out j (by rw [HZ.out.length] at hj; omega))
      go_wp2
      go_ret
      rw [HE.out]
      exact ⟨rfl, rfl⟩

/-- What is wrong with a model and two sequences: the error's number. -/
def refE (m : Md) (xs ys : List Int) : Int :=
  if rightM m = true then (if lettersB m.letters xs = true ∧ lettersB m.letters ys = true then (if (xs.length : Int) ≤ most (wid m) ∧ (ys.length : Int) ≤ most (wid m) then 0 else 170) else 11) else 110
end Go.Proofs.Ytegndeefddlccaa
