/-
  The walks of the statements' own helpers: same, awake.
-/
import Derived.Test.YtcleejdlmamdhaaPrint
import Derived.Test.YtcleejdlmamdhaaRefParse2
namespace Go.Proofs.Ytcleejdlmamdhaa
open Go.RowKit

theorem drewN_add (w : World) (a b : Nat) : (w.drewN a).drewN b = w.drewN (a + b) := by
  induction b with
  | zero => rfl
  | succ b ih => show ((w.drewN a).drewN b).drew = (w.drewN (a + b)).drew; rw [ih]

theorem guard29 : Try.prog.eqGuardType Try.prog.depth 29 = false := by kernel_rfl
theorem fields29 : Try.prog.underlying 29 = some (.struct (Try.prog.fieldsOf 29)) := by kernel_rfl
theorem held29 : Try.prog.stoodInHeld 29 = false := by kernel_rfl
theorem equal_sq (q p : Sq) (W : World) : (Op.equalIn 10000 29 (.agg #[.string q.1, .string q.2.1, .string q.2.2]) (.agg #[.string p.1, .string p.2.1, .string p.2.2])).run Try.prog W = .ok (decide (q.P = p.P)) W := by
  rw [show (10000 : Nat) = 9999 + 1 from rfl, run_equalIn_agg W 9999 29 _ _ fields29 held29]
  simp only [Program.fieldsOf, Try.underlying29]
  go_simp
  simp only [Sq.P, Prod.mk.injEq, ByteArray.toList_eq]
  by_cases h1 : q.1.data.toList = p.1.data.toList <;> by_cases h2 : q.2.1.data.toList = p.2.1.data.toList <;> by_cases h3 : q.2.2.data.toList = p.2.2.data.toList <;> simp [h1, h2, h3]

theorem same_next {qs ps : List Sq} {k : Nat} {q p : Sq} (hq : qs[k]? = some q) (hp : ps[k]? = some p) (h : (qs.take k).map Sq.P = (ps.take k).map Sq.P) (e : q.P = p.P) : (qs.take (k + 1)).map Sq.P = (ps.take (k + 1)).map Sq.P := by
  obtain ⟨h1, h2⟩ := List.getElem?_eq_some_iff.1 hq
  obtain ⟨h3, h4⟩ := List.getElem?_eq_some_iff.1 hp
  rw [List.take_succ_eq_append_getElem h1, List.take_succ_eq_append_getElem h3, h2, h4, List.map_append, List.map_append, h]
  simp [e]
theorem same_not {qs ps : List Sq} {k : Nat} {q p : Sq} (hq : qs[k]? = some q) (hp : ps[k]? = some p) (e : ¬ q.P = p.P) : ¬ qs.map Sq.P = ps.map Sq.P := by
  intro h
  have h1 := congrArg (fun l => l[k]?) h
  simp only [List.getElem?_map, hq, hp, Option.map_some, Option.some.injEq] at h1
  exact e h1

theorem same_calls (ao bo : Option Addr) (n m ca cb : Nat) (qs ps : List Sq) (w : World) (ha : SqsAt w ao n qs) (hb : SqsAt w bo m ps) :
    Calls Try.prog 11 #[.slice ao n ca, .slice bo m cb] w fun e w' => e = .returned (.bool (decide (qs.map Sq.P = ps.map Sq.P))) ∧ ∃ k, w' = w.drewN k := by
  have hm := ha.short
  unfold maxLen at hm
  have hm2 := hb.short
  unfold maxLen at hm2
  have HLa : Hid (qs.length = n) := ha.length
  have HLb : Hid (ps.length = m) := hb.length
  have HA : Hid (SqsAt w ao n qs) := ha
  have HB : Hid (SqsAt w bo m ps) := hb
  clear ha hb
  by_cases hne : n = m
  · subst hne
    have hd : ((n : Int) != (n : Int)) = false := by simp
    go_enter Try.func11, Try.ntmps11
    go_wp2
    go_loopw [5] (fun i wr => ∃ k j : Nat, k ≤ n ∧ i = .int .i64 k ∧ (qs.take k).map Sq.P = (ps.take k).map Sq.P ∧ wr = w.drewN j) (fun i _ => n - (intOf i).toNat)
    case atStart => exact ⟨0, 0, Nat.zero_le _, rfl, by simp, rfl⟩
    case round =>
      obtain ⟨k, j, hk, rfl, heq, hwr⟩ := hrel
      have HE : Hid ((qs.take k).map Sq.P = (ps.take k).map Sq.P) := heq
      have HW : Hid (wr = w.drewN j) := hwr
      have hbel : Below w.heap.size w wr := by rw [hwr]; exact below_drewN (Below.refl _ _) j
      clear heq hwr
      by_cases hlt : k < n
      · obtain ⟨b1, o1, rfl, hc1⟩ := (HA.out.below hbel).cells (by omega)
        obtain ⟨b2, o2, rfl, hc2⟩ := (HB.out.below hbel).cells (by omega)
        obtain ⟨q, hq⟩ : ∃ q, qs[k]? = some q := ⟨_, List.getElem?_eq_getElem (by rw [HLa.out]; exact hlt)⟩
        obtain ⟨p, hp⟩ : ∃ p, ps[k]? = some p := ⟨_, List.getElem?_eq_getElem (by rw [HLb.out]; exact hlt)⟩
        obtain ⟨x1, x2, x3⟩ := hc1 k q hq
        obtain ⟨y1, y2, y3⟩ := hc2 k p hp
        have HQ : Hid (qs[k]? = some q ∧ ps[k]? = some p) := ⟨hq, hp⟩
        have hgd := guard29
        have heqn := equal_sq q p
        generalize hdd : decide (q.P = p.P) = d at heqn
        have HD : Hid (decide (q.P = p.P) = d) := hdd
        clear hc1 hc2 hq hp hbel hdd
        go_wp2_with fail
        go_quiet (fail)
        have HW2 : Hid (∃ i, wr.drewN nq = w.drewN i) := ⟨j + nq, by rw [HW.out]; exact drewN_add w j nq⟩
        cases d with
        | true =>
          have HN : Hid ((qs.take (k + 1)).map Sq.P = (ps.take (k + 1)).map Sq.P) := same_next HQ.out.1 HQ.out.2 HE.out (of_decide_eq_true HD.out)
          generalize wr.drewN nq = wz at *
          clear heqn HD
          go_wp2
          go_roundw
          case rel =>
            obtain ⟨i, hi⟩ := HW2.out
            exact ⟨k + 1, i, by omega, by go_num, HN.out, hi⟩
          case measure => simp [intOf]; omega
        | false =>
          have HN : Hid (decide (qs.map Sq.P = ps.map Sq.P) = false) := decide_eq_false (same_not HQ.out.1 HQ.out.2 (of_decide_eq_false HD.out))
          generalize wr.drewN nq = wz at *
          clear heqn HD
          go_wp2
          go_ret
          exact ⟨ret_bool HN.out.symm, HW2.out⟩
      · have HN : Hid (decide (qs.map Sq.P = ps.map Sq.P) = true) := by
          have h1 := HE.out
          rw [List.take_of_length_le (by rw [HLa.out]; omega), List.take_of_length_le (by rw [HLb.out]; omega)] at h1
          exact decide_eq_true h1
        go_wp2
        go_ret
        exact ⟨ret_bool HN.out.symm, j, HW.out⟩
  · have hd : ((n : Int) != (m : Int)) = true := by simp; omega
    have HN : Hid (decide (qs.map Sq.P = ps.map Sq.P) = false) := by
      apply decide_eq_false
      intro h
      have := congrArg List.length h
      simp at this
      rw [HLa.out, HLb.out] at this
      exact hne this
    clear hne
    go_enter Try.func11, Try.ntmps11
    go_wp2
    go_ret
    exact ⟨ret_bool HN.out.symm, 0, rfl⟩

theorem parse_one : parseB [62, 97, 32, 120, 32, 121, 10, 65, 67, 10, 103, 116, 10, 10, 62, 98, 10, 78] = ([([97], [120, 32, 121], [65, 67, 103, 116]), ([98], [], [78])], 0, 0) := by decide
theorem parse_two : parseB [62, 97, 10, 10, 62, 98, 10, 65] = ([], 3, 20) := by decide
theorem print_one : printB 3 [([97], [120], [65, 67, 71, 84, 65])] = ([62, 97, 32, 120, 10, 65, 67, 71, 10, 84, 65, 10], 0) := by decide
end Go.Proofs.Ytcleejdlmamdhaa
