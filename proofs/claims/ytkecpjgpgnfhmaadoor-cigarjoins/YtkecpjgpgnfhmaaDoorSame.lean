/-
  The walk of the statements' own same.
-/
import Derived.Test.YtkecpjgpgnfhmaaDoorRight
namespace Go.Proofs.YtkecpjgpgnfhmaaDoor
open Go.RowKit

theorem drewN_add (w : World) (a b : Nat) : (w.drewN a).drewN b = w.drewN (a + b) := by
  induction b with
  | zero => rfl
  | succ b ih => show ((w.drewN a).drewN b).drew = (w.drewN (a + b)).drew; rw [ih]

theorem guard29 : Tryd.prog.eqGuardType Tryd.prog.depth 29 = false := by kernel_rfl
theorem fields29 : Tryd.prog.underlying 29 = some (.struct (Tryd.prog.fieldsOf 29)) := by kernel_rfl
theorem held29 : Tryd.prog.stoodInHeld 29 = false := by kernel_rfl
theorem byte_int (a b : UInt8) : ((a.toNat : Int) = (b.toNat : Int)) ↔ a = b := ⟨fun h => UInt8.toNat_inj.1 (by omega), fun h => by rw [h]⟩
theorem equal_rn (q p : Rn) (W : World) : (Op.equalIn 10000 29 (.agg #[.int .u8 (q.1.toNat : Int), .int .i64 q.2]) (.agg #[.int .u8 (p.1.toNat : Int), .int .i64 p.2])).run Tryd.prog W = .ok (decide (q = p)) W := by
  obtain ⟨a, b⟩ := q
  obtain ⟨c, d⟩ := p
  rw [show (10000 : Nat) = 9999 + 1 from rfl, run_equalIn_agg W 9999 29 _ _ fields29 held29]
  simp only [Program.fieldsOf, Tryd.underlying29]
  go_simp
  by_cases h1 : a = c <;> by_cases h2 : b = d <;> simp [h1, h2, byte_int]
theorem same_next {qs ps : List Rn} {k : Nat} {q p : Rn} (hq : qs[k]? = some q) (hp : ps[k]? = some p) (h : qs.take k = ps.take k) (e : q = p) : qs.take (k + 1) = ps.take (k + 1) := by
  obtain ⟨h1, h2⟩ := List.getElem?_eq_some_iff.1 hq
  obtain ⟨h3, h4⟩ := List.getElem?_eq_some_iff.1 hp
  rw [List.take_succ_eq_append_getElem h1, List.take_succ_eq_append_getElem h3, h2, h4, h, e]
theorem same_not {qs ps : List Rn} {k : Nat} {q p : Rn} (hq : qs[k]? = some q) (hp : ps[k]? = some p) (e : ¬ q = p) : ¬ qs = ps := by
  intro h
  rw [h, hp] at hq
  exact e (Option.some.inj hq).symm

set_option maxHeartbeats 1000000 in
theorem same_calls (ao bo : Option Addr) (n m ca cb : Nat) (qs ps : List Rn) (w : World) (ha : RnsAt w ao n qs) (hb : RnsAt w bo m ps) :
    Calls Tryd.prog 11 #[.slice ao n ca, .slice bo m cb] w fun e w' => e = .returned (.bool (decide (qs = ps))) ∧ ∃ k, w' = w.drewN k := by
  have hm := ha.short
  unfold maxLen at hm
  have hm2 := hb.short
  unfold maxLen at hm2
  have HLa : Hid (qs.length = n) := ha.length
  have HLb : Hid (ps.length = m) := hb.length
  have HA : Hid (RnsAt w ao n qs) := ha
  have HB : Hid (RnsAt w bo m ps) := hb
  clear ha hb
  by_cases hne : n = m
  · subst hne
    have hd : ((n : Int) != (n : Int)) = false := by simp
    go_enter Tryd.func11, Tryd.ntmps11
    go_wp2
    go_loopw [5] (fun i wr => ∃ k j : Nat, k ≤ n ∧ i = .int .i64 k ∧ qs.take k = ps.take k ∧ wr = w.drewN j) (fun i _ => n - (intOf i).toNat)
    case atStart => exact ⟨0, 0, Nat.zero_le _, rfl, by simp, rfl⟩
    case round =>
      obtain ⟨k, j, hk, rfl, heq, hwr⟩ := hrel
      have HE : Hid (qs.take k = ps.take k) := heq
      have HW : Hid (wr = w.drewN j) := hwr
      have hbel : Below w.heap.size w wr := by rw [hwr]; exact below_drewN (Below.refl _ _) j
      clear heq hwr
      by_cases hlt : k < n
      · obtain ⟨b1, o1, rfl, hc1⟩ := (HA.out.below hbel).cells (by omega)
        obtain ⟨b2, o2, rfl, hc2⟩ := (HB.out.below hbel).cells (by omega)
        obtain ⟨q, hq⟩ : ∃ q, qs[k]? = some q := ⟨_, List.getElem?_eq_getElem (by rw [HLa.out]; exact hlt)⟩
        obtain ⟨p, hp⟩ : ∃ p, ps[k]? = some p := ⟨_, List.getElem?_eq_getElem (by rw [HLb.out]; exact hlt)⟩
        obtain ⟨x1, x2⟩ := hc1 k q hq
        obtain ⟨y1, y2⟩ := hc2 k p hp
        have HQ : Hid (qs[k]? = some q ∧ ps[k]? = some p) := ⟨hq, hp⟩
        have hgd := guard29
        have heqn := equal_rn q p
        generalize hdd : decide (q = p) = d at heqn
        have HD : Hid (decide (q = p) = d) := hdd
        clear hc1 hc2 hq hp hbel hdd
        go_wp2_with fail
        go_quiet (fail)
        have HW2 : Hid (∃ i, wr.drewN nq = w.drewN i) := ⟨j + nq, by rw [HW.out]; exact drewN_add w j nq⟩
        cases d with
        | true =>
          have HN : Hid (qs.take (k + 1) = ps.take (k + 1)) := same_next HQ.out.1 HQ.out.2 HE.out (of_decide_eq_true HD.out)
          generalize wr.drewN nq = wz at *
          clear heqn HD
          go_wp2
          go_roundw
          case rel =>
            obtain ⟨i, hi⟩ := HW2.out
            exact ⟨k + 1, i, by omega, by go_num, HN.out, hi⟩
          case measure => simp [intOf]; omega
        | false =>
          have HN : Hid (¬ qs = ps) := same_not HQ.out.1 HQ.out.2 (of_decide_eq_false HD.out)
          generalize wr.drewN nq = wz at *
          clear heqn HD
          go_wp2
          go_ret
          exact ⟨ret_bool (decide_eq_false HN.out).symm, HW2.out⟩
      · have HN : Hid (qs = ps) := by
          have h := HE.out
          rw [List.take_of_length_le (by rw [HLa.out]; omega), List.take_of_length_le (by rw [HLb.out]; omega)] at h
          exact h
        go_wp2
        go_ret
        exact ⟨ret_bool (decide_eq_true HN.out).symm, j, HW.out⟩
  · have hd : ((n : Int) != (m : Int)) = true := by rw [bne_iff_ne]; omega
    have HN : Hid (¬ qs = ps) := fun h => hne (by rw [← HLa.out, ← HLb.out, h])
    go_enter Tryd.func11, Tryd.ntmps11
    go_wp2
    go_ret
    exact ⟨ret_bool (decide_eq_false HN.out).symm, 0, rfl⟩
end Go.Proofs.YtkecpjgpgnfhmaaDoor
