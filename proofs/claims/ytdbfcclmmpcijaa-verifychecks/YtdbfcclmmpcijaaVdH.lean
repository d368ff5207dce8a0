/-
  The walks of the document's arrows and greatest.
-/
import Derived.Test.YtdbfcclmmpcijaaVdS
import Derived.Test.YtdbfcclmmpcijaaVrF
import Derived.Test.YtdbfcclmmpcijaaVuB
import Derived.Laws.AppendOwnNone
namespace Go.Proofs.Ytdbfcclmmpcijaa
open Go.RowKit

theorem seen_snoc {l : List Qd} {k : Nat} {q : Qd} (p b : Int) (h : l[k]? = some q) : seenB (l.take (k + 1)) p b = (seenB (l.take k) p b || (q.1 == p && q.2.1 == b)) := by
  unfold seenB
  rw [any_snoc h]
theorem drop_cons {l : List Qd} {k : Nat} {a : Qd} (h : l[k]? = some a) : l.drop k = a :: l.drop (k + 1) := by
  have hk : k < l.length := (List.getElem?_eq_some_iff.1 h).1
  rw [List.drop_eq_getElem_cons hk]
  rw [List.getElem?_eq_getElem hk] at h
  cases h; rfl
theorem seen_hit {l : List Qd} {k j : Nat} {q : Qd} (p b : Int) (h : l[j]? = some q) (hj : j < k) (h1 : (q.1 == p && q.2.1 == b) = true) : seenB (l.take k) p b = true := any_hit h hj h1
set_option maxRecDepth 10000 in
set_option maxHeartbeats 2000000 in
theorem darrows_calls (c : Cd) (s : Ls) (w : World) (h : CdAt w c s) :
    Calls Try.prog 23 #[.agg (cdCells c s)] w fun e w' => e = .returned (.bool (arsB c)) ∧ Below w.heap.size w w' := by
  have HQ : Hid (QdsAt w s.r.a s.r.n c.arrows) := h.arrows
  have HN : Hid (c.arrows.length = s.r.n) := h.arrows.length
  have hm := h.arrows.short
  unfold maxLen at hm
  clear h
  have H0 : Hid (Bo w (w.alloc (.cells #[.int .i64 c.letters, .int .i64 c.planes, .int .i64 c.regs, .int .i64 c.lo, .int .i64 c.hi, .int .i64 c.most, .slice s.t.a s.t.n s.t.c, .slice s.k.a s.k.n s.k.c, .slice s.i.a s.i.n s.i.c, .slice s.r.a s.r.n s.r.c] 26)) #[.int .i64 c.letters, .int .i64 c.planes, .int .i64 c.regs, .int .i64 c.lo, .int .i64 c.hi, .int .i64 c.most, .slice s.t.a s.t.n s.t.c, .slice s.k.a s.k.n s.k.c, .slice s.i.a s.i.n s.i.c, .slice s.r.a s.r.n s.r.c]) := ⟨below_new _, heap_alloc_new _ _⟩
  rw [show cdCells c s = #[.int .i64 c.letters, .int .i64 c.planes, .int .i64 c.regs, .int .i64 c.lo, .int .i64 c.hi, .int .i64 c.most, .slice s.t.a s.t.n s.t.c, .slice s.k.a s.k.n s.k.c, .slice s.i.a s.i.n s.i.c, .slice s.r.a s.r.n s.r.c] from rfl]
  go_enter Try.func23, Try.ntmps23
  go_wp2
  go_loopw [3, 4, 5] (fun i _ _ wr => ∃ k : Nat, k ≤ s.r.n ∧ i = .int .i64 k ∧ arsB c = arGo c.planes (c.arrows.take k) (c.arrows.drop k) ∧ Bo w wr #[.int .i64 c.letters, .int .i64 c.planes, .int .i64 c.regs, .int .i64 c.lo, .int .i64 c.hi, .int .i64 c.most, .slice s.t.a s.t.n s.t.c, .slice s.k.a s.k.n s.k.c, .slice s.i.a s.i.n s.i.c, .slice s.r.a s.r.n s.r.c]) (fun i _ _ _ => s.r.n - (intOf i).toNat)
  case atStart => exact ⟨0, Nat.zero_le _, rfl, rfl, H0.out⟩
  case round =>
    obtain ⟨k, hk, rfl, hall, hbx⟩ := hrel
    have HA : Hid (arsB c = arGo c.planes (c.arrows.take k) (c.arrows.drop k)) := hall
    have HR : Hid (Bo w wr #[.int .i64 c.letters, .int .i64 c.planes, .int .i64 c.regs, .int .i64 c.lo, .int .i64 c.hi, .int .i64 c.most, .slice s.t.a s.t.n s.t.c, .slice s.k.a s.k.n s.k.c, .slice s.i.a s.i.n s.i.c, .slice s.r.a s.r.n s.r.c]) := hbx
    clear hall hbx H0
    have p9 := HR.out.cell 9 (v := .slice s.r.a s.r.n s.r.c) rfl
    by_cases hlt : k < s.r.n
    · obtain ⟨a, ha⟩ := get_lt (l := c.arrows) (k := k) (by rw [HN.out]; exact hlt)
      obtain ⟨bb, off, hra, hcs⟩ := (HQ.out.below HR.out.low).cells (by omega)
      obtain ⟨c1, c2, c3, c4⟩ := hcs k a ha
      have HAk : Hid (c.arrows[k]? = some a) := ha
      have HD : Hid (arsB c = arGo c.planes (c.arrows.take k) (a :: c.arrows.drop (k + 1))) := by show _ = _; rw [HA.out, drop_cons ha]
      clear ha HA hcs
      obtain ⟨x, y, z, u⟩ := a
      simp only at c1 c2 c3 c4
      have HRA : Hid (s.r.a = some ⟨bb, off, none⟩) := hra
      rw [hra] at p9
      clear hra
      go_upto_region 5 with (fail)
      have HR1 : Hid (Bo w (wr.alloc (.cells #[.int .i64 x, .int .i64 y, .int .i64 z, .int .i64 u] 42)) #[.int .i64 c.letters, .int .i64 c.planes, .int .i64 c.regs, .int .i64 c.lo, .int .i64 c.hi, .int .i64 c.most, .slice s.t.a s.t.n s.t.c, .slice s.k.a s.k.n s.k.c, .slice s.i.a s.i.n s.i.c, .slice s.r.a s.r.n s.r.c]) := HR.out.next (below_new _)
      have HB : Hid ((wr.alloc (.cells #[.int .i64 x, .int .i64 y, .int .i64 z, .int .i64 u] 42)).heap[wr.heap.size]? = some (.cells #[.int .i64 x, .int .i64 y, .int .i64 z, .int .i64 u] 42 (0, 0))) := heap_alloc_new _ _
      clear c1 c2 c3 c4 p9 HR
      generalize wr.alloc (.cells #[.int .i64 x, .int .i64 y, .int .i64 z, .int .i64 u] 42) = wd at *
      generalize wr.heap.size = gx at *
      clear wr
      have p1 := HR1.out.cell 1 (v := .int .i64 c.planes) rfl
      have b0 := cell_block HB.out 0 (.int .i64 x) rfl
      have b1 := cell_block HB.out 1 (.int .i64 y) rfl
      have b2 := cell_block HB.out 2 (.int .i64 z) rfl
      have b3 := cell_block HB.out 3 (.int .i64 u) rfl
      obtain ⟨r1, h1⟩ : ∃ r, arwB c.planes (x, y, z, u) = r := ⟨_, rfl⟩
      cases r1
      · have HF : Hid (arsB c = false) := by show _ = _; rw [HD.out]; exact ar_false (.inl h1)
        have HNo : Hid (arwB c.planes (x, y, z, u) = false) := h1
        clear h1
        go_wp2
        all_goals first
          | (go_ret; exact ⟨ret_bool (by rw [HF.out]), HR1.out.low⟩)
          | (exfalso; have h9 := HNo.out; simp [arwB, inB] at h9; omega)
      · have hbd := arw_bd h1
        have HY : Hid (arwB c.planes (x, y, z, u) = true) := h1
        clear h1
        obtain ⟨⟨e1, e2⟩, ⟨e3, e4⟩, ⟨e5, e6⟩, ⟨e7, e8⟩⟩ := hbd
        simp only at e1 e2 e3 e4 e5 e6 e7 e8
        have d1 : decide (x < 1) = false := by simp; omega
        have d2 : decide (c.planes ≤ x) = false := by simp; omega
        have d3 : decide (y < 0) = false := by simp; omega
        have d4 : decide (16 ≤ y) = false := by simp; omega
        have d5 : decide (z < 0) = false := by simp; omega
        have d6 : decide (c.planes ≤ z) = false := by simp; omega
        have d7 : decide (u < 1) = false := by simp; omega
        have d8 : decide (3 < u) = false := by simp; omega
        clear e1 e2 e3 e4 e5 e6 e7 e8
        go_wp2
        clear p1 b0 b1 b2 b3
        go_loopw [5] (fun i wr => ∃ j : Nat, j ≤ k ∧ i = .int .i64 j ∧ seenB (c.arrows.take j) x y = false ∧ Bo w wr #[.int .i64 c.letters, .int .i64 c.planes, .int .i64 c.regs, .int .i64 c.lo, .int .i64 c.hi, .int .i64 c.most, .slice s.t.a s.t.n s.t.c, .slice s.k.a s.k.n s.k.c, .slice s.i.a s.i.n s.i.c, .slice s.r.a s.r.n s.r.c] ∧ wr.heap[gx]? = some (.cells #[.int .i64 x, .int .i64 y, .int .i64 z, .int .i64 u] 42 (0, 0))) (fun i _ => k - (intOf i).toNat)
        case atStart => exact ⟨0, Nat.zero_le _, rfl, rfl, HR1.out, HB.out⟩
        case round =>
          obtain ⟨j, hj, rfl, hno, hbo, hbx⟩ := hrel
          have HS : Hid (seenB (c.arrows.take j) x y = false) := hno
          have HR2 : Hid (Bo w wr #[.int .i64 c.letters, .int .i64 c.planes, .int .i64 c.regs, .int .i64 c.lo, .int .i64 c.hi, .int .i64 c.most, .slice s.t.a s.t.n s.t.c, .slice s.k.a s.k.n s.k.c, .slice s.i.a s.i.n s.i.c, .slice s.r.a s.r.n s.r.c]) := hbo
          have HB2 : Hid (wr.heap[gx]? = some (.cells #[.int .i64 x, .int .i64 y, .int .i64 z, .int .i64 u] 42 (0, 0))) := hbx
          clear hno hbo hbx HR1 HB
          by_cases hlt2 : j < k
          · obtain ⟨q, hq⟩ := get_lt (l := c.arrows) (k := j) (by rw [HN.out]; omega)
            obtain ⟨bc, ofc, hrc, hcs⟩ := (HQ.out.below HR2.out.low).cells (by omega)
            obtain ⟨c1, c2, c3, c4⟩ := hcs j q hq
            have HQj : Hid (c.arrows[j]? = some q) := hq
            clear hcs hq c3 c4
            obtain ⟨q0, q1, q2, q3⟩ := q
            simp only at c1 c2
            have p9 := HR2.out.cell 9 (v := .slice s.r.a s.r.n s.r.c) rfl
            rw [hrc] at p9
            clear hrc
            have b0 := cell_block HB2.out 0 (.int .i64 x) rfl
            have b1 := cell_block HB2.out 1 (.int .i64 y) rfl
            have hjn : j < s.r.n := by omega
            obtain ⟨f1, g1⟩ : ∃ r, (q0 == x) = r := ⟨_, rfl⟩
            obtain ⟨f2, g2⟩ : ∃ r, (q1 == y) = r := ⟨_, rfl⟩
            have HSn : Hid (seenB (c.arrows.take (j + 1)) x y = (f1 && f2)) := by show _ = _; rw [seen_snoc x y HQj.out, HS.out, ← g1, ← g2]; rfl
            have HH : Hid ((q0 == x && q1 == y) = (f1 && f2)) := by show _ = _; rw [g1, g2]
            cases f1
            · go_wp2_with fail
              go_quiet (fail)
              have HR3 : Hid (Bo w (wr.drewN nq) #[.int .i64 c.letters, .int .i64 c.planes, .int .i64 c.regs, .int .i64 c.lo, .int .i64 c.hi, .int .i64 c.most, .slice s.t.a s.t.n s.t.c, .slice s.k.a s.k.n s.k.c, .slice s.i.a s.i.n s.i.c, .slice s.r.a s.r.n s.r.c] ∧ (wr.drewN nq).heap[gx]? = some (.cells #[.int .i64 x, .int .i64 y, .int .i64 z, .int .i64 u] 42 (0, 0))) := ⟨HR2.out.next (below_drewN (Below.refl _ _) nq), row_next HB2.out (below_drewN (Below.refl _ _) nq)⟩
              clear c1 c2 p9 b0 b1
              generalize wr.drewN nq = wz at *
              go_wp2
              go_roundw
              case rel => exact ⟨j + 1, by omega, by go_num, by rw [HSn.out]; rfl, HR3.out.1, HR3.out.2⟩
              case measure => simp [intOf]; omega
            · cases f2
              · go_wp2_with fail
                go_quiet (fail)
                have HR3 : Hid (Bo w (wr.drewN nq) #[.int .i64 c.letters, .int .i64 c.planes, .int .i64 c.regs, .int .i64 c.lo, .int .i64 c.hi, .int .i64 c.most, .slice s.t.a s.t.n s.t.c, .slice s.k.a s.k.n s.k.c, .slice s.i.a s.i.n s.i.c, .slice s.r.a s.r.n s.r.c] ∧ (wr.drewN nq).heap[gx]? = some (.cells #[.int .i64 x, .int .i64 y, .int .i64 z, .int .i64 u] 42 (0, 0))) := ⟨HR2.out.next (below_drewN (Below.refl _ _) nq), row_next HB2.out (below_drewN (Below.refl _ _) nq)⟩
                clear c1 c2 p9 b0 b1
                generalize wr.drewN nq = wz at *
                go_wp2
                go_roundw
                case rel => exact ⟨j + 1, by omega, by go_num, by rw [HSn.out]; rfl, HR3.out.1, HR3.out.2⟩
                case measure => simp [intOf]; omega
              · have HF : Hid (arsB c = false) := by show _ = _; rw [HD.out]; exact ar_false (.inr (seen_hit x y HQj.out hlt2 HH.out))
                go_wp2_with fail
                go_quiet (fail)
                have HL : Hid (Below w.heap.size w (wr.drewN nq)) := below_drewN HR2.out.low nq
                clear c1 c2 p9 b0 b1
                generalize wr.drewN nq = wz at *
                go_wp2
                go_ret
                exact ⟨ret_bool (by rw [HF.out]), HL.out⟩
          · obtain rfl : j = k := by omega
            have HT : Hid (arsB c = arGo c.planes (c.arrows.take (j + 1)) (c.arrows.drop (j + 1))) := by
              show _ = _
              rw [HD.out, ar_true HY.out HS.out, take_snoc HAk.out]
            go_wp2
            go_roundw
            case rel => exact ⟨j + 1, by omega, by go_num, HT.out, HR2.out⟩
            case measure => simp [intOf]; omega
    · obtain rfl : k = s.r.n := by omega
      have HF : Hid (arsB c = true) := by
        show _ = _
        rw [HA.out, List.drop_of_length_le (by rw [HN.out]; exact Nat.le_refl _)]; rfl
      go_wp2
      go_ret
      exact ⟨ret_bool (by rw [HF.out]), HR.out.low⟩

end Go.Proofs.Ytdbfcclmmpcijaa
