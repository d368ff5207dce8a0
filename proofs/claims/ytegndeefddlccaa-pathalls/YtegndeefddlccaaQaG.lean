/-
  Two lists of paths held against one another.
-/
import Derived.Test.YtegndeefddlccaaQaB
import Derived.BigQuiet
namespace Go.Proofs.Ytegndeefddlccaa
open Go.RowKit

set_option maxRecDepth 20000 in
set_option maxHeartbeats 2000000 in
theorem pathsEq_calls (ao bo : Option Addr) (n c1 c2 : Nat) (P : List Pt) (w : World) (ha : PtsAt w ao n P) (hb : PtsAt w bo n P) :
    Calls Try.prog 18 #[.slice ao n c1, .slice bo n c2] w fun e w' => e = .returned (.bool true) ∧ Below w.heap.size w w' := by
  have hn := ha.short
  have HA : Hid (PtsAt w ao n P) := ha
  have HB : Hid (PtsAt w bo n P) := hb
  clear ha hb
  have e0 : ((n : Int) != (n : Int)) = false := by simp
  go_enter Try.func18, Try.ntmps18
  go_wp2
  go_loopw [5] (fun i wr => ∃ k : Nat, k ≤ n ∧ i = .int .i64 k ∧ Below w.heap.size w wr) (fun i _ => n - (intOf i).toNat)
  case atStart => exact ⟨0, Nat.zero_le _, rfl, Below.refl _ _⟩
  case round =>
    obtain ⟨k, hk, rfl, hbel⟩ := hrel
    have HL : Hid (Below w.heap.size w wr) := hbel
    clear hbel
    by_cases hkn : k < n
    · obtain ⟨p, hp⟩ : ∃ p, P[k]? = some p := ⟨_, List.getElem?_eq_getElem (by rw [HA.out.length]; exact hkn)⟩
      obtain ⟨g, off, rfl, hc1⟩ := (HA.out.below HL.out).cells (by omega)
      obtain ⟨g', off', rfl, hc2⟩ := (HB.out.below HL.out).cells (by omega)
      obtain ⟨x1, x2, x3⟩ := hc1 k p hp
      obtain ⟨y1, y2, y3⟩ := hc2 k p hp
      have ei : (p.i == p.i) = true := by simp
      have ej : (p.j == p.j) = true := by simp
      have es : ((bs p.cols).toList == (bs p.cols).toList) = true := by simp
      clear hc1 hc2 hp HA HB
      go_wp2_with fail
      go_quiet (fail)
      go_wp2
      go_roundw
      case rel => exact ⟨k + 1, by omega, by go_num, below_drewN HL.out _⟩
      case measure => simp [intOf]; omega
    · go_wp2
      go_ret
      exact ⟨rfl, HL.out⟩

end Go.Proofs.Ytegndeefddlccaa
