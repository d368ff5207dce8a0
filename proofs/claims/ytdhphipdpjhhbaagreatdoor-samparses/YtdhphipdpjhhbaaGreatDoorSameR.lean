/-
  The walk of the statements' own same, of records.
-/
import Derived.Test.YtdhphipdpjhhbaaGreatDoorLists
import Derived.Test.YtdhphipdpjhhbaaGreatDoorSame
namespace Go.Proofs.YtdhphipdpjhhbaaGreatDoor
open Go.RowKit

theorem bne_list_true {a b : ByteArray} (h : ¬ a.data.toList = b.data.toList) : (a.toList != b.toList) = true := by rw [ByteArray.toList_eq, ByteArray.toList_eq, bne_iff_ne]; exact h
theorem list_ne {a b : ByteArray} (h : (!a.toList == b.toList) = true) : ¬ a.data.toList = b.data.toList := by
  rw [ByteArray.toList_eq, ByteArray.toList_eq] at h
  simpa using h

set_option maxRecDepth 20000 in
set_option maxHeartbeats 4000000 in
theorem sameR_calls (u v : RV) (qs ps : List Rn) (w : World) (hu : RecOk w u qs) (hv : RecOk w v ps) :
    Calls Tryz.prog 17 #[u.val, v.val] w fun e w' => e = .returned (.bool (sameB (u.R qs) (v.R ps))) ∧ Below w.heap.size w w' := by
  have HLa : Hid (qs.length = u.len) := hu.runs.length
  have HLb : Hid (ps.length = v.len) := hv.runs.length
  have HA : Hid (RnsAt w u.ao u.len qs) := hu.runs
  have HB : Hid (RnsAt w v.ao v.len ps) := hv.runs
  have hm := hu.runs.short
  have hm2 := hv.runs.short
  unfold maxLen at hm hm2
  have hp1 := hu.pos
  have hp2 := hv.pos
  have hs1 := hu.score
  have hs2 := hv.score
  unfold fitI at hp1 hp2 hs1 hs2
  obtain ⟨nm, m, rf, p, ao, n, ca, b, q, s⟩ := u
  obtain ⟨nm', m', rf', p', bo, n', cb, b', q', s'⟩ := v
  clear hu hv
  simp only at *
  have HBn : Hid (∀ o1 o2, Below w.heap.size w ((w.alloc o1).alloc o2)) := fun o1 o2 => (alloc2_heap w o1 o2).2.2
  by_cases hall : n = n' ∧ nm.toList = nm'.toList ∧ m = m' ∧ rf.toList = rf'.toList ∧ p = p' ∧ b.toList = b'.toList ∧ q.toList = q'.toList ∧ s = s'
  case neg =>
    have HN : Hid (sameB ((⟨nm, m, rf, p, ao, n, ca, b, q, s⟩ : RV).R qs) ((⟨nm', m', rf', p', bo, n', cb, b', q', s'⟩ : RV).R ps) = false) := by
      refine sameB_not fun h => hall ?_
      simp only [RV.R, Rec.mk.injEq] at h
      obtain ⟨h1, h2, h3, h4, h5, h6, h7, h8⟩ := h
      simp only [ByteArray.toList_eq]
      exact ⟨by rw [← HLa.out, ← HLb.out, h5], h1, h2, h3, h4, h6, h7, h8⟩
    clear HLa HLb HA HB
    generalize sameB ((⟨nm, m, rf, p, ao, n, ca, b, q, s⟩ : RV).R qs) ((⟨nm', m', rf', p', bo, n', cb, b', q', s'⟩ : RV).R ps) = Z at *
    simp only [RV.val]
    by_cases k1 : n = n'
    case neg =>
      have hd : ((n : Int) != (n' : Int)) = true := by rw [bne_iff_ne]; omega
      clear hall
      go_enter Tryz.func17, Tryz.ntmps17
      go_wp2
      go_ret
      exact ⟨ret_bool HN.out.symm, HBn.out _ _⟩
    subst k1
    have hall2 : ¬ (nm.toList = nm'.toList ∧ m = m' ∧ rf.toList = rf'.toList ∧ p = p' ∧ b.toList = b'.toList ∧ q.toList = q'.toList ∧ s = s') := fun h => hall ⟨rfl, h⟩
    clear hall
    have hnn : ((n : Int) != (n : Int)) = false := by simp
    have hcase : (nm.toList == nm'.toList) = false ∨ ((nm.toList == nm'.toList) = true ∧ ((m == m') = false ∨ ((m == m') = true ∧ ((rf.toList == rf'.toList) = false ∨ ((rf.toList == rf'.toList) = true ∧ ((p == p') = false ∨ ((p == p') = true ∧ ((b.toList == b'.toList) = false ∨ ((b.toList == b'.toList) = true ∧ ((q.toList == q'.toList) = false ∨ ((q.toList == q'.toList) = true ∧ (s == s') = false))))))))))) := by
      cases h1 : (nm.toList == nm'.toList) with
      | false => exact .inl rfl
      | true =>
      refine .inr ⟨rfl, ?_⟩
      cases h2 : (m == m') with
      | false => exact .inl rfl
      | true =>
      refine .inr ⟨rfl, ?_⟩
      cases h3 : (rf.toList == rf'.toList) with
      | false => exact .inl rfl
      | true =>
      refine .inr ⟨rfl, ?_⟩
      cases h4 : (p == p') with
      | false => exact .inl rfl
      | true =>
      refine .inr ⟨rfl, ?_⟩
      cases h5 : (b.toList == b'.toList) with
      | false => exact .inl rfl
      | true =>
      refine .inr ⟨rfl, ?_⟩
      cases h6 : (q.toList == q'.toList) with
      | false => exact .inl rfl
      | true =>
      refine .inr ⟨rfl, ?_⟩
      cases h7 : (s == s') with
      | false => rfl
      | true =>
      exact absurd ⟨beq_iff_eq.1 h1, beq_iff_eq.1 h2, beq_iff_eq.1 h3, beq_iff_eq.1 h4, beq_iff_eq.1 h5, beq_iff_eq.1 h6, beq_iff_eq.1 h7⟩ hall2
    clear hall2
    rcases hcase with h1 | ⟨h1, h2 | ⟨h2, h3 | ⟨h3, h4 | ⟨h4, h5 | ⟨h5, h6 | ⟨h6, h7⟩⟩⟩⟩⟩⟩
    all_goals (
      go_enter Tryz.func17, Tryz.ntmps17
      go_wp2
      all_goals (first | (go_ret; exact ⟨ret_bool HN.out.symm, HBn.out _ _⟩) | (exfalso; simp_all; done)))
  case pos =>
    obtain ⟨rfl, h1, rfl, h3, rfl, h5, h6, rfl⟩ := hall
    have e1 : nm = nm' := byte_ext (by rwa [ByteArray.toList_eq, ByteArray.toList_eq] at h1)
    have e3 : rf = rf' := byte_ext (by rwa [ByteArray.toList_eq, ByteArray.toList_eq] at h3)
    have e5 : b = b' := byte_ext (by rwa [ByteArray.toList_eq, ByteArray.toList_eq] at h5)
    have e6 : q = q' := byte_ext (by rwa [ByteArray.toList_eq, ByteArray.toList_eq] at h6)
    subst e1 e3 e5 e6
    have HD0 : Hid (sameB ((⟨nm, m, rf, p, ao, n, ca, b, q, s⟩ : RV).R qs) ((⟨nm, m, rf, p, bo, n, cb, b, q, s⟩ : RV).R ps) = decide (qs = ps)) := by
      show sameB _ _ = _
      by_cases hqp : qs = ps
      · rw [decide_eq_true hqp, hqp]; exact sameB_self _
      · rw [decide_eq_false hqp]
        refine sameB_not fun e => hqp ?_
        exact congrArg Rec.runs e
    generalize sameB ((⟨nm, m, rf, p, ao, n, ca, b, q, s⟩ : RV).R qs) ((⟨nm, m, rf, p, bo, n, cb, b, q, s⟩ : RV).R ps) = Z at *
    clear h1 h3 h5 h6 hp1 hp2 hs1 hs2
    have hnn : ((n : Int) != (n : Int)) = false := by simp
    simp only [RV.val]
    go_enter Tryz.func17, Tryz.ntmps17
    go_wp2_with fail
    generalize hwx : (w.alloc (.cells #[.string nm, .bool m, .string rf, .int .i64 p, .slice ao n ca, .string b, .string q, .int .i64 s] 24)).alloc (.cells #[.string nm, .bool m, .string rf, .int .i64 p, .slice bo n cb, .string b, .string q, .int .i64 s] 24) = wx
    have HX : Hid (Below w.heap.size w wx ∧ wx.heap[w.heap.size]? = some (.cells #[.string nm, .bool m, .string rf, .int .i64 p, .slice ao n ca, .string b, .string q, .int .i64 s] 24 (0, 0)) ∧ wx.heap[w.heap.size + 1]? = some (.cells #[.string nm, .bool m, .string rf, .int .i64 p, .slice bo n cb, .string b, .string q, .int .i64 s] 24 (0, 0))) := by
      subst hwx
      obtain ⟨q1, q2, q3⟩ := alloc2_heap w (.cells #[.string nm, .bool m, .string rf, .int .i64 p, .slice ao n ca, .string b, .string q, .int .i64 s] 24) (.cells #[.string nm, .bool m, .string rf, .int .i64 p, .slice bo n cb, .string b, .string q, .int .i64 s] 24)
      exact ⟨q3, q1, q2⟩
    clear hwx
    go_loopw [5] (fun i wr => ∃ k : Nat, k ≤ n ∧ i = .int .i64 k ∧ qs.take k = ps.take k ∧ Below w.heap.size w wr ∧ wr.heap[w.heap.size]? = some (.cells #[.string nm, .bool m, .string rf, .int .i64 p, .slice ao n ca, .string b, .string q, .int .i64 s] 24 (0, 0)) ∧ wr.heap[w.heap.size + 1]? = some (.cells #[.string nm, .bool m, .string rf, .int .i64 p, .slice bo n cb, .string b, .string q, .int .i64 s] 24 (0, 0))) (fun i _ => n - (intOf i).toNat)
    case atStart => exact ⟨0, Nat.zero_le _, rfl, by simp, HX.out.1, HX.out.2.1, HX.out.2.2⟩
    case round =>
      obtain ⟨k, hk, rfl, heq, hbel, hx1, hx2⟩ := hrel
      have HE : Hid (qs.take k = ps.take k) := heq
      have HW : Hid (Below w.heap.size w wr ∧ wr.heap[w.heap.size]? = some (.cells #[.string nm, .bool m, .string rf, .int .i64 p, .slice ao n ca, .string b, .string q, .int .i64 s] 24 (0, 0)) ∧ wr.heap[w.heap.size + 1]? = some (.cells #[.string nm, .bool m, .string rf, .int .i64 p, .slice bo n cb, .string b, .string q, .int .i64 s] 24 (0, 0))) := ⟨hbel, hx1, hx2⟩
      have f1 := cellB hx1 (i := 4) rfl
      have f2 := cellB hx2 (i := 4) rfl
      clear heq hx1 hx2 HX
      by_cases hlt : k < n
      · obtain ⟨b1, o1, rfl, hc1⟩ := (HA.out.below hbel).cells (by omega)
        obtain ⟨b2, o2, rfl, hc2⟩ := (HB.out.below hbel).cells (by omega)
        obtain ⟨y, hq⟩ : ∃ y, qs[k]? = some y := ⟨_, List.getElem?_eq_getElem (by rw [HLa.out]; exact hlt)⟩
        obtain ⟨z, hp⟩ : ∃ z, ps[k]? = some z := ⟨_, List.getElem?_eq_getElem (by rw [HLb.out]; exact hlt)⟩
        obtain ⟨x1, x2⟩ := hc1 k y hq
        obtain ⟨y1, y2⟩ := hc2 k z hp
        have HQ : Hid (qs[k]? = some y ∧ ps[k]? = some z) := ⟨hq, hp⟩
        have hgd := guard29
        have heqn := equal_rn y z
        generalize hdd : decide (y = z) = d at heqn
        have HD : Hid (decide (y = z) = d) := hdd
        have hdk : decide ((k : Int) < (n : Int)) = true := by simp; omega
        have hkn : (k : Int) < (n : Int) := by omega
        clear hc1 hc2 hq hp hbel hdd
        go_wp2_with fail
        go_quiet (fail)
        have HW2 : Hid (Below w.heap.size w (wr.drewN nq) ∧ (wr.drewN nq).heap[w.heap.size]? = some (.cells #[.string nm, .bool m, .string rf, .int .i64 p, .slice (some ⟨b1, o1, none⟩) n ca, .string b, .string q, .int .i64 s] 24 (0, 0)) ∧ (wr.drewN nq).heap[w.heap.size + 1]? = some (.cells #[.string nm, .bool m, .string rf, .int .i64 p, .slice (some ⟨b2, o2, none⟩) n cb, .string b, .string q, .int .i64 s] 24 (0, 0))) := by
          have hb : Below wr.heap.size wr (wr.drewN nq) := below_drewN (Below.refl _ _) nq
          exact ⟨HW.out.1.trans (hb.mono HW.out.1.size), keepB HW.out.2.1 hb, keepB HW.out.2.2 hb⟩
        cases d with
        | true =>
          have HN : Hid (qs.take (k + 1) = ps.take (k + 1)) := same_next HQ.out.1 HQ.out.2 HE.out (of_decide_eq_true HD.out)
          generalize wr.drewN nq = wz at *
          clear heqn HD
          go_wp2
          go_roundw
          case rel => exact ⟨k + 1, by omega, by go_num, HN.out, HW2.out.1, HW2.out.2.1, HW2.out.2.2⟩
          case measure => simp [intOf]; omega
        | false =>
          have HN : Hid (¬ qs = ps) := same_not HQ.out.1 HQ.out.2 (of_decide_eq_false HD.out)
          generalize wr.drewN nq = wz at *
          clear heqn HD
          go_wp2
          go_ret
          exact ⟨ret_bool (by rw [HD0.out]; exact (decide_eq_false HN.out).symm), HW2.out.1⟩
      · have hdk : decide ((k : Int) < (n : Int)) = false := by simp; omega
        have HN : Hid (qs = ps) := by
          have h := HE.out
          rw [List.take_of_length_le (by rw [HLa.out]; omega), List.take_of_length_le (by rw [HLb.out]; omega)] at h
          exact h
        go_wp2
        go_ret
        exact ⟨ret_bool (by rw [HD0.out]; exact (decide_eq_true HN.out).symm), HW.out.1⟩
end Go.Proofs.YtdhphipdpjhhbaaGreatDoor
