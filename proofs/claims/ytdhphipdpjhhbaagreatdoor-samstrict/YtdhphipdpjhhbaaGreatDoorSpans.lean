/-
  The walk of cigar.Spans.
-/
import Derived.Test.YtdhphipdpjhhbaaGreatDoorRight
namespace Go.Proofs.YtdhphipdpjhhbaaGreatDoor
open Go.RowKit

theorem refB_snoc (l : List Rn) (r : Rn) : refB (l ++ [r]) = if r.1 = 77 ∨ r.1 = 68 then refB l + r.2 else refB l := by simp [refB]
theorem readB_snoc (l : List Rn) (r : Rn) : readB (l ++ [r]) = if r.1 = 68 then readB l else readB l + r.2 := by simp [readB]
/-- Sums of some runs are small. -/
theorem spans_small (l : List Rn) (hf : ∀ r ∈ l, 1 ≤ r.2 ∧ r.2 ≤ 131072) : ∀ k, k ≤ l.length → 0 ≤ refB (l.take k) ∧ refB (l.take k) ≤ 131072 * k ∧ 0 ≤ readB (l.take k) ∧ readB (l.take k) ≤ 131072 * k := by
  intro k
  induction k with
  | zero => intro _; simp [refB, readB]
  | succ k ih =>
    intro hk
    have h := ih (by omega)
    have hr := hf l[k] (List.getElem_mem _)
    rw [List.take_succ_eq_append_getElem (by omega), refB_snoc, readB_snoc]
    refine ⟨?_, ?_, ?_, ?_⟩ <;> (split <;> omega)
theorem is77 {a : UInt8} (h : a = 77) : ((a.toNat : Int) == 77) = true := by subst h; rfl
theorem not77 {a : UInt8} (h : a ≠ 77) : ((a.toNat : Int) == 77) = false := nat_byte h
theorem is68 {a : UInt8} (h : a = 68) : ((a.toNat : Int) == 68) = true := by subst h; rfl
theorem not68 {a : UInt8} (h : a ≠ 68) : ((a.toNat : Int) == 68) = false := nat_byte h
theorem ne_of_beq {a b : Int} {d : Bool} (h : (a == b) = d) : (a != b) = !d := by rw [bne, h]
def spansV (a : Int × Int × Int) : Value := .tuple #[.int .i64 a.1, .int .i64 a.2.1, .int .i64 a.2.2]
theorem spans_ret {a : Int × Int × Int} {x y z : Int} (h : a = (x, y, z)) : Ending.returned (.tuple #[.int .i64 x, .int .i64 y, .int .i64 z]) = .returned (spansV a) := by subst h; rfl
theorem take_next {l : List Rn} {k : Nat} {r : Rn} (h : l[k]? = some r) : l.take (k + 1) = l.take k ++ [r] := by
  obtain ⟨hlt, he⟩ := List.getElem?_eq_some_iff.1 h
  rw [List.take_succ_eq_append_getElem hlt, he]

set_option maxHeartbeats 4000000 in
theorem spans_calls (ao : Option Addr) (len cap : Nat) (l : List Rn) (w : World) (hz : RnsAt w ao len l) :
    Calls Tryz.prog 80 #[.slice ao len cap] w fun e w' => e = .returned (spansV (spansA l)) ∧ Below w.heap.size w w' := by
  have hlm := hz.short
  unfold maxLen at hlm
  have HZL : Hid (l.length = len) := hz.length
  have HZ : Hid (RnsAt w ao len l) := hz
  have HC : Hid (Calls Tryz.prog 83 #[.slice ao len cap] w fun e w' => e = .returned (.bool (rightB l)) ∧ Below w.heap.size w w') := areRight_calls ao len cap l w hz
  clear hz
  cases hr : rightB l with
  | false =>
    have HE : Hid (spansA l = (0, 0, 40)) := by show _ = _; rw [spansA, if_neg (by rw [hr]; decide)]
    rw [hr] at HC
    go_enter Tryz.func80, Tryz.ntmps80
    go_wp2_with (go_at_call 83; refine HC.out.mono ?_; rintro e w' ⟨rfl, hb⟩)
    refine bodyPost_ret (v := .tuple #[.int .i64 0, .int .i64 0, .int .i64 40]) (by simp [results, Tryz.results80, go_sem]) rfl ⟨spans_ret HE.out, hb⟩
  | true =>
    have HE : Hid (spansA l = (refB l, readB l, 0)) := by show _ = _; rw [spansA, if_pos hr]
    have HS : Hid (∀ k, k ≤ len → 0 ≤ refB (l.take k) ∧ refB (l.take k) ≤ 131072 * k ∧ 0 ≤ readB (l.take k) ∧ readB (l.take k) ≤ 131072 * k) := by
      have := spans_small l (fun r hm => (right_each hr r hm).2)
      rw [HZL.out] at this
      exact this
    have hfew : len ≤ 131074 := by rw [← HZL.out]; exact right_few hr
    rw [hr] at HC
    clear hr
    go_enter Tryz.func80, Tryz.ntmps80
    go_wp2_with (go_at_call 83; refine HC.out.mono ?_; rintro e w1 ⟨rfl, hb1⟩)
    have HB1 : Hid (Below w.heap.size w w1) := hb1
    clear hb1 HC
    go_loopw [5, 6, 14] (fun x y i wr => ∃ k : Nat, k ≤ len ∧ i = .int .i64 k ∧ x = .int .i64 (refB (l.take k)) ∧ y = .int .i64 (readB (l.take k)) ∧ Below w.heap.size w wr) (fun _ _ i _ => len - (intOf i).toNat)
    case atStart => exact ⟨0, Nat.zero_le _, rfl, rfl, rfl, HB1.out⟩
    case round =>
      obtain ⟨k, hk, rfl, rfl, rfl, hbel⟩ := hrel
      obtain ⟨s1, s2, s3, s4⟩ := HS.out k hk
      have HB : Hid (Below w.heap.size w wr) := hbel
      clear hbel
      by_cases hlt : k < len
      · have hdk : decide ((k : Int) < (len : Int)) = true := by simp; omega
        obtain ⟨b, off, rfl, hcs⟩ := (HZ.out.below HB.out).cells (by omega)
        obtain ⟨r, hr⟩ : ∃ r, l[k]? = some r := ⟨_, List.getElem?_eq_getElem (by rw [HZL.out]; exact hlt)⟩
        obtain ⟨hc1, hc2⟩ := hcs k r hr
        have hu := UInt8.toNat_lt r.1
        have HBo : Hid (∀ o, Below w.heap.size w (wr.alloc o)) := fun o => HB.out.alloc HB.out.size o
        have HX : Hid (refB (l.take (k + 1)) = if r.1 = 77 ∨ r.1 = 68 then refB (l.take k) + r.2 else refB (l.take k)) := by show _ = _; rw [take_next hr, refB_snoc]
        have HY : Hid (readB (l.take (k + 1)) = if r.1 = 68 then readB (l.take k) else readB (l.take k) + r.2) := by show _ = _; rw [take_next hr, readB_snoc]
        obtain ⟨t1, t2, t3, t4⟩ := HS.out (k + 1) (by omega)
        clear hr hcs HZ
        by_cases h7 : r.1 = 77
        · have e7 := is77 h7
          have h6 : r.1 ≠ 68 := by rw [h7]; decide
          have e6 := ne_of_beq (not68 h6)
          rw [HX.out, if_pos (.inl h7)] at t1 t2
          rw [HY.out, if_neg h6] at t3 t4
          have HX2 : Hid (refB (l.take k) + r.2 = refB (l.take (k + 1))) := by show _ = _; rw [HX.out, if_pos (.inl h7)]
          have HY2 : Hid (readB (l.take k) + r.2 = readB (l.take (k + 1))) := by show _ = _; rw [HY.out, if_neg h6]
          clear h7 h6 HX HY
          go_wp2
          go_roundw
          case rel => exact ⟨k + 1, by omega, by go_num, by rw [HX2.out], by rw [HY2.out], HBo.out _⟩
          case measure => simp [intOf]; omega
        · have e7 := not77 h7
          by_cases h6 : r.1 = 68
          · have e6 := ne_of_beq (is68 h6)
            have e6' := is68 h6
            rw [HX.out, if_pos (.inr h6)] at t1 t2
            have HX2 : Hid (refB (l.take k) + r.2 = refB (l.take (k + 1))) := by show _ = _; rw [HX.out, if_pos (.inr h6)]
            have HY2 : Hid (readB (l.take k) = readB (l.take (k + 1))) := by show _ = _; rw [HY.out, if_pos h6]
            clear h7 h6 HX HY t3 t4
            go_wp2
            go_roundw
            case rel => exact ⟨k + 1, by omega, by go_num, by rw [HX2.out], by rw [HY2.out], HBo.out _⟩
            case measure => simp [intOf]; omega
          · have e6 := ne_of_beq (not68 h6)
            have e6' := not68 h6
            rw [HY.out, if_neg h6] at t3 t4
            have HX2 : Hid (refB (l.take k) = refB (l.take (k + 1))) := by show _ = _; rw [HX.out, if_neg (fun h => h.elim h7 h6)]
            have HY2 : Hid (readB (l.take k) + r.2 = readB (l.take (k + 1))) := by show _ = _; rw [HY.out, if_neg h6]
            clear h7 h6 HX HY t1 t2
            go_wp2
            go_roundw
            case rel => exact ⟨k + 1, by omega, by go_num, by rw [HX2.out], by rw [HY2.out], HBo.out _⟩
            case measure => simp [intOf]; omega
      · have hdk : decide ((k : Int) < (len : Int)) = false := by simp; omega
        have HT : Hid (l.take k = l) := List.take_of_length_le (by rw [HZL.out]; omega)
        go_wp2
        refine bodyPost_ret (v := .tuple #[.int .i64 (refB (l.take k)), .int .i64 (readB (l.take k)), .int .i64 0]) (by simp [results, Tryz.results80, go_sem]) rfl ⟨?_, HB.out⟩
        rw [HT.out]
        exact spans_ret HE.out
end Go.Proofs.YtdhphipdpjhhbaaGreatDoor
