/-
  The walk of the document's good.
-/
import Derived.Test.YtdbfcclmmpcijaaVdA
import Derived.Test.YtdbfcclmmpcijaaVrC
namespace Go.Proofs.Ytdbfcclmmpcijaa
open Go.RowKit

theorem guard42 : Try.prog.eqGuardType Try.prog.depth 42 = false := by kernel_rfl
theorem fields42 : Try.prog.underlying 42 = some (.struct (Try.prog.fieldsOf 42)) := by kernel_rfl
theorem held42 : Try.prog.stoodInHeld 42 = false := by kernel_rfl
theorem equal_q42 (o x y z o2 x2 y2 z2 : Int) (W : World) : (Op.equalIn 10000 42 (.agg #[.int .i64 o, .int .i64 x, .int .i64 y, .int .i64 z]) (.agg #[.int .i64 o2, .int .i64 x2, .int .i64 y2, .int .i64 z2])).run Try.prog W = .ok (decide ((o, x, y, z) = (o2, x2, y2, z2))) W := by
  rw [show (10000 : Nat) = 9999 + 1 from rfl, run_equalIn_agg W 9999 42 _ _ fields42 held42]
  simp only [Program.fieldsOf, Try.underlying42]
  go_simp
  by_cases h1 : o = o2 <;> by_cases h2 : x = x2 <;> by_cases h3 : y = y2 <;> by_cases h4 : z = z2 <;> simp [h1, h2, h3, h4]
def hasB (p : Int) (q a : Qd) : Bool := decide (a = (p, q.1, q.2.2.1, q.2.2.2))
def oneB (p : Int) (l : List Qd) (q : Qd) : Bool := q.2.1 == 2 && l.any (hasB p q)
theorem com_one (r : Rg) (p : Int) (l : List Qd) : comB r p l = (r.kind == 0 && r.ways.all (oneB p l)) := by
  unfold comB
  congr 2
  funext x
  obtain ⟨x0, x1, x2, x3⟩ := x
  unfold oneB
  rw [Bool.eq_iff_iff]
  simp only [List.any_eq_true, Bool.and_eq_true, beq_iff_eq, folB, hasB, decide_eq_true_eq]
  constructor
  · rintro ⟨⟨a0, a1, a2, a3⟩, ha, h1, h2, h3⟩
    simp only [Prod.mk.injEq] at h2
    exact ⟨h2.1, _, ha, by simp only [Prod.mk.injEq]; exact ⟨h1, h3.symm, h2.2.1.symm, h2.2.2.symm⟩⟩
  · rintro ⟨h1, ⟨a0, a1, a2, a3⟩, ha, h2⟩
    simp only [Prod.mk.injEq] at h2
    exact ⟨_, ha, h2.1, by simp only [Prod.mk.injEq]; exact ⟨h1, h2.2.2.1.symm, h2.2.2.2.symm⟩, h2.2.1.symm⟩
theorem all_snoc {l : List Qd} {f : Qd → Bool} {k : Nat} {q : Qd} (h : l[k]? = some q) (h0 : (l.take k).all f = true) (h1 : f q = true) : (l.take (k + 1)).all f = true := by
  rw [take_snoc h, List.all_append, h0]; simp [h1]
theorem all_no {l : List Qd} {f : Qd → Bool} {k : Nat} {q : Qd} (h : l[k]? = some q) (h1 : f q = false) : l.all f = false := by
  rw [List.all_eq_false]
  exact ⟨q, List.mem_of_getElem? h, by rw [h1]; decide⟩
theorem any_snoc {l : List Qd} {f : Qd → Bool} {k : Nat} {q : Qd} (h : l[k]? = some q) : (l.take (k + 1)).any f = ((l.take k).any f || f q) := by
  rw [take_snoc h, List.any_append]; simp
def goodB (p : Int) (r : Rg) (l : List Qd) : Bool := if p = 0 then begB r else comB r p l
/-- The register's box. -/
structure Gd (w wr : World) (cs : Array Value) : Prop where
  low : Below w.heap.size w wr
  box : wr.heap[w.heap.size]? = some (.cells cs 80 (0, 0))
theorem Gd.next {w wr w2 : World} {cs : Array Value} (h : Gd w wr cs) (hb : Below wr.heap.size wr w2) : Gd w w2 cs := ⟨below_two h.low hb, row_next h.box hb⟩
theorem Gd.cell {w wr : World} {cs : Array Value} (h : Gd w wr cs) (i : Nat) (v : Value) (hv : cs[i]? = some v) : wr.cell? ⟨w.heap.size, i, none⟩ = some v := cell_block h.box i v hv
section
variable {w0 w : World} {b : Nat} {c : Cd} {s : Ls} {S : St} {wv : Nat → Value} {gr gk gw R P : Nat}
set_option maxRecDepth 10000 in
set_option maxHeartbeats 2000000 in
theorem dgood_calls (p : Int) (r : Rg) (q0 q1 : Bool) (ao : Option Addr) (n cap : Nat) (g : Int) (h : Dl w0 w b c s S wv gr gk gw R P) (hq : QdsAt w ao n r.ways) :
    Calls Try.prog 43 #[.pointer (some ⟨b, 0, none⟩), .int .i64 p, .agg #[.bool q0, .bool q1, .int .i64 r.kind, .int .i64 r.plane, .int .i64 r.step, .slice ao n cap, .int .i64 g]] w fun e w' => e = .returned (.bool (goodB p r c.arrows)) ∧ Below w.heap.size w w' := by
  have hm := hq.short
  have hm2 := h.cd.arrows.short
  unfold maxLen at hm hm2
  have HQ : Hid (QdsAt w ao n r.ways) := hq
  have HN : Hid (r.ways.length = n) := hq.length
  have HD : Hid (Dl w0 w b c s S wv gr gk gw R P) := h
  have hlb := lt_block h.box
  have HRn : Hid (c.arrows.length = s.r.n) := h.cd.arrows.length
  clear h hq
  have HG : Hid (Gd w (w.alloc (.cells #[.bool q0, .bool q1, .int .i64 r.kind, .int .i64 r.plane, .int .i64 r.step, .slice ao n cap, .int .i64 g] 80)) #[.bool q0, .bool q1, .int .i64 r.kind, .int .i64 r.plane, .int .i64 r.step, .slice ao n cap, .int .i64 g]) := ⟨below_new _, heap_alloc_new _ _⟩
  by_cases hp : p = 0
  · have HE : Hid ((goodB p r c.arrows) = ((r.ways.all fun x => orB x.2.1) && orB r.kind)) := by show _ = _; rw [goodB, if_pos hp]; rfl
    have hp0 : (p == 0) = true := by simp [hp]
    clear hp
    go_enter Try.func43, Try.ntmps43
    go_wp2
    go_loopw [7] (fun i wr => ∃ j : Nat, j ≤ n ∧ i = .int .i64 j ∧ (r.ways.take j).all (fun x => orB x.2.1) = true ∧ Gd w wr #[.bool q0, .bool q1, .int .i64 r.kind, .int .i64 r.plane, .int .i64 r.step, .slice ao n cap, .int .i64 g]) (fun i _ => n - (intOf i).toNat)
    case atStart => exact ⟨0, Nat.zero_le _, rfl, rfl, HG.out⟩
    case round =>
      obtain ⟨j, hj, rfl, hall, hg⟩ := hrel
      have HA : Hid ((r.ways.take j).all (fun x => orB x.2.1) = true) := hall
      have HX : Hid (Gd w wr #[.bool q0, .bool q1, .int .i64 r.kind, .int .i64 r.plane, .int .i64 r.step, .slice ao n cap, .int .i64 g]) := hg
      clear hall hg HG
      have x5 := HX.out.cell 5 (.slice ao n cap) rfl
      by_cases hlt : j < n
      · obtain ⟨q, hq⟩ := get_lt (l := r.ways) (k := j) (by rw [HN.out]; exact hlt)
        obtain ⟨bb, off, rfl, hcs⟩ := (HQ.out.below HX.out.low).cells (by omega)
        obtain ⟨c1, c2, c3, c4⟩ := hcs j q hq
        have HGq : Hid (r.ways[j]? = some q) := hq
        clear hcs hq c1 c3 c4
        obtain ⟨x0, z, x2, x3⟩ := q
        simp only at c2
        obtain ⟨r1, h1⟩ : ∃ r, (z == 0) = r := ⟨_, rfl⟩
        obtain ⟨r2, h2⟩ : ∃ r, (z == 1) = r := ⟨_, rfl⟩
        have HO : Hid (orB z = (r1 || r2)) := by show _ = _; rw [orB, h1, h2]
        have h1' : (z != 0) = !r1 := by rw [← h1]; rfl
        have h2' : (z != 1) = !r2 := by rw [← h2]; rfl
        clear h1 h2
        cases r1
        · cases r2
          · have HB : Hid ((r.ways.all fun x => orB x.2.1) = false) := all_no HGq.out HO.out
            go_wp2
            go_ret
            exact ⟨ret_bool (by rw [HE.out, HB.out]; rfl), HX.out.low⟩
          · have HB : Hid ((r.ways.take (j + 1)).all (fun x => orB x.2.1) = true) := all_snoc HGq.out HA.out HO.out
            go_wp2
            go_roundw
            case rel => exact ⟨j + 1, by omega, by go_num, HB.out, HX.out⟩
            case measure => simp [intOf]; omega
        · have HB : Hid ((r.ways.take (j + 1)).all (fun x => orB x.2.1) = true) := all_snoc HGq.out HA.out (by show orB z = true; rw [HO.out]; rfl)
          go_wp2
          go_roundw
          case rel => exact ⟨j + 1, by omega, by go_num, HB.out, HX.out⟩
          case measure => simp [intOf]; omega
      · obtain rfl : j = n := by omega
        have HB : Hid ((r.ways.all fun x => orB x.2.1) = true) := by
          show _ = _
          have := HA.out
          rwa [List.take_of_length_le (by rw [HN.out]; exact Nat.le_refl _)] at this
        have x2 := HX.out.cell 2 (.int .i64 r.kind) rfl
        obtain ⟨r1, h1⟩ : ∃ x, (r.kind == 0) = x := ⟨_, rfl⟩
        obtain ⟨r2, h2⟩ : ∃ x, (r.kind == 1) = x := ⟨_, rfl⟩
        have HO : Hid (orB r.kind = (r1 || r2)) := by show _ = _; rw [orB, h1, h2]
        cases r1
        · go_wp2
          go_ret
          exact ⟨ret_bool (by rw [HE.out, HB.out, HO.out]; rfl), HX.out.low⟩
        · go_wp2
          go_ret
          exact ⟨ret_bool (by rw [HE.out, HB.out, HO.out]; rfl), HX.out.low⟩
  · have HE : Hid ((goodB p r c.arrows) = (r.kind == 0 && r.ways.all (oneB p c.arrows))) := by show _ = _; rw [goodB, if_neg hp]; exact com_one r p c.arrows
    have hp0 : (p == 0) = false := by simp [hp]
    clear hp
    go_enter Try.func43, Try.ntmps43
    go_wp2
    go_loopw [8, 9, 10, 11] (fun i _ _ _ wr => ∃ j : Nat, j ≤ n ∧ i = .int .i64 j ∧ (r.ways.take j).all (oneB p c.arrows) = true ∧ Gd w wr #[.bool q0, .bool q1, .int .i64 r.kind, .int .i64 r.plane, .int .i64 r.step, .slice ao n cap, .int .i64 g]) (fun i _ _ _ _ => n - (intOf i).toNat)
    case atStart => exact ⟨0, Nat.zero_le _, rfl, rfl, HG.out⟩
    case round =>
      obtain ⟨j, hj, rfl, hall, hg⟩ := hrel
      have HA : Hid ((r.ways.take j).all (oneB p c.arrows) = true) := hall
      have HX : Hid (Gd w wr #[.bool q0, .bool q1, .int .i64 r.kind, .int .i64 r.plane, .int .i64 r.step, .slice ao n cap, .int .i64 g]) := hg
      clear hall hg HG
      have x5 := HX.out.cell 5 (.slice ao n cap) rfl
      by_cases hlt : j < n
      · obtain ⟨q, hq⟩ := get_lt (l := r.ways) (k := j) (by rw [HN.out]; exact hlt)
        obtain ⟨bb, off, rfl, hcs⟩ := (HQ.out.below HX.out.low).cells (by omega)
        obtain ⟨c1, c2, c3, c4⟩ := hcs j q hq
        have HGq : Hid (r.ways[j]? = some q) := hq
        clear hcs hq
        obtain ⟨x0, x1, x2, x3⟩ := q
        simp only at c1 c2 c3 c4
        go_upto_region 12 with (fail)
        have HX1 : Hid (Gd w (wr.alloc (.cells #[.int .i64 x0, .int .i64 x1, .int .i64 x2, .int .i64 x3] 90)) #[.bool q0, .bool q1, .int .i64 r.kind, .int .i64 r.plane, .int .i64 r.step, .slice (some ⟨bb, off, none⟩) n cap, .int .i64 g]) := HX.out.next (below_new _)
        have HB1 : Hid ((wr.alloc (.cells #[.int .i64 x0, .int .i64 x1, .int .i64 x2, .int .i64 x3] 90)).heap[wr.heap.size]? = some (.cells #[.int .i64 x0, .int .i64 x1, .int .i64 x2, .int .i64 x3] 90 (0, 0))) := heap_alloc_new _ _
        clear c1 c2 c3 c4 x5 HX
        generalize wr.alloc (.cells #[.int .i64 x0, .int .i64 x1, .int .i64 x2, .int .i64 x3] 90) = wd at *
        generalize wr.heap.size = gx at *
        clear wr
        go_wp2
        go_loopw [10, 11] (fun t i wr => ∃ m : Nat, m ≤ s.r.n ∧ i = .int .i64 m ∧ t = .bool ((c.arrows.take m).any (hasB p (x0, x1, x2, x3))) ∧ Gd w wr #[.bool q0, .bool q1, .int .i64 r.kind, .int .i64 r.plane, .int .i64 r.step, .slice (some ⟨bb, off, none⟩) n cap, .int .i64 g] ∧ wr.heap[gx]? = some (.cells #[.int .i64 x0, .int .i64 x1, .int .i64 x2, .int .i64 x3] 90 (0, 0))) (fun _ i _ => s.r.n - (intOf i).toNat)
        case atStart => exact ⟨0, Nat.zero_le _, rfl, rfl, HX1.out, HB1.out⟩
        case round =>
          obtain ⟨m, hmm, rfl, rfl, hx2, hb2⟩ := hrel
          have HX2 : Hid (Gd w wr #[.bool q0, .bool q1, .int .i64 r.kind, .int .i64 r.plane, .int .i64 r.step, .slice (some ⟨bb, off, none⟩) n cap, .int .i64 g]) := hx2
          have HB2 : Hid (wr.heap[gx]? = some (.cells #[.int .i64 x0, .int .i64 x1, .int .i64 x2, .int .i64 x3] 90 (0, 0))) := hb2
          clear hx2 hb2 HX1 HB1
          have k9 := (HD.out.next HX2.out.low).cell 9 (v := .slice s.r.a s.r.n s.r.c) rfl
          obtain ⟨tt, htt⟩ : ∃ t, (c.arrows.take m).any (hasB p (x0, x1, x2, x3)) = t := ⟨_, rfl⟩
          have HT : Hid ((c.arrows.take m).any (hasB p (x0, x1, x2, x3)) = tt) := htt
          rw [htt]
          clear htt
          have b0 := cell_block HB2.out 0 (.int .i64 x0) rfl
          have b1 := cell_block HB2.out 1 (.int .i64 x1) rfl
          have b2 := cell_block HB2.out 2 (.int .i64 x2) rfl
          have b3 := cell_block HB2.out 3 (.int .i64 x3) rfl
          by_cases hlt2 : m < s.r.n
          · obtain ⟨a, ha⟩ := get_lt (l := c.arrows) (k := m) (by rw [HRn.out]; exact hlt2)
            obtain ⟨ba, oa, hra, hca⟩ := ((HD.out.next HX2.out.low).at').arrows.cells (by omega)
            obtain ⟨c1, c2, c3, c4⟩ := hca m a ha
            have HAa : Hid (c.arrows[m]? = some a) := ha
            clear hca ha
            obtain ⟨a0, a1, a2, a3⟩ := a
            simp only at c1 c2 c3 c4
            have HRA : Hid (s.r.a = some ⟨ba, oa, none⟩) := hra
            rw [hra] at k9
            clear hra
            have he := equal_q42 a0 a1 a2 a3 p x0 x2 x3
            have hgd := guard42
            obtain ⟨e1, h1⟩ : ∃ e, decide ((a0, a1, a2, a3) = (p, x0, x2, x3)) = e := ⟨_, rfl⟩
            have HS : Hid ((c.arrows.take (m + 1)).any (hasB p (x0, x1, x2, x3)) = (tt || e1)) := by show _ = _; rw [any_snoc HAa.out, HT.out, ← h1]; rfl
            rw [h1] at he
            clear h1 HT
            cases e1
            · go_wp2_with fail
              go_quiet (fail)
              have HX3 : Hid (Gd w (wr.drewN nq) #[.bool q0, .bool q1, .int .i64 r.kind, .int .i64 r.plane, .int .i64 r.step, .slice (some ⟨bb, off, none⟩) n cap, .int .i64 g] ∧ (wr.drewN nq).heap[gx]? = some (.cells #[.int .i64 x0, .int .i64 x1, .int .i64 x2, .int .i64 x3] 90 (0, 0))) := ⟨HX2.out.next (below_drewN (Below.refl _ _) nq), row_next HB2.out (below_drewN (Below.refl _ _) nq)⟩
              generalize wr.drewN nq = wz at *
              clear b0 b1 b2 b3 c1 c2 c3 c4 k9 he
              go_wp2
              go_roundw
              case rel => exact ⟨m + 1, by omega, by go_num, by rw [HS.out, Bool.or_false], HX3.out.1, HX3.out.2⟩
              case measure => simp [intOf]; omega
            · go_wp2_with fail
              go_quiet (fail)
              have HX3 : Hid (Gd w (wr.drewN nq) #[.bool q0, .bool q1, .int .i64 r.kind, .int .i64 r.plane, .int .i64 r.step, .slice (some ⟨bb, off, none⟩) n cap, .int .i64 g] ∧ (wr.drewN nq).heap[gx]? = some (.cells #[.int .i64 x0, .int .i64 x1, .int .i64 x2, .int .i64 x3] 90 (0, 0))) := ⟨HX2.out.next (below_drewN (Below.refl _ _) nq), row_next HB2.out (below_drewN (Below.refl _ _) nq)⟩
              generalize wr.drewN nq = wz at *
              clear b0 b1 b2 b3 c1 c2 c3 c4 k9 he
              go_wp2
              go_roundw
              case rel => exact ⟨m + 1, by omega, by go_num, by rw [HS.out, Bool.or_true], HX3.out.1, HX3.out.2⟩
              case measure => simp [intOf]; omega
          · obtain rfl : m = s.r.n := by omega
            have HT2 : Hid (oneB p c.arrows (x0, x1, x2, x3) = (x1 == 2 && tt)) := by
              show _ = _
              rw [← HT.out, List.take_of_length_le (by rw [HRn.out]; exact Nat.le_refl _)]; rfl
            obtain ⟨r1, h1⟩ : ∃ x, (x1 == 2) = x := ⟨_, rfl⟩
            rw [h1] at HT2
            have h1' : (x1 != 2) = !r1 := by rw [← h1]; rfl
            clear h1
            clear HT b0 b2 b3
            cases r1
            · have HB : Hid (r.ways.all (oneB p c.arrows) = false) := all_no HGq.out HT2.out
              go_wp2
              go_ret
              exact ⟨ret_bool (by rw [HE.out, HB.out, Bool.and_false]), HX2.out.low⟩
            · cases tt
              · have HB : Hid (r.ways.all (oneB p c.arrows) = false) := all_no HGq.out HT2.out
                go_wp2
                go_ret
                exact ⟨ret_bool (by rw [HE.out, HB.out, Bool.and_false]), HX2.out.low⟩
              · have HB : Hid ((r.ways.take (j + 1)).all (oneB p c.arrows) = true) := all_snoc HGq.out HA.out HT2.out
                go_wp2
                go_roundw
                case rel => exact ⟨j + 1, by omega, by go_num, HB.out, HX2.out⟩
                case measure => simp [intOf]; omega
      · obtain rfl : j = n := by omega
        have HB : Hid (r.ways.all (oneB p c.arrows) = true) := by
          show _ = _
          have := HA.out
          rwa [List.take_of_length_le (by rw [HN.out]; exact Nat.le_refl _)] at this
        have x2 := HX.out.cell 2 (.int .i64 r.kind) rfl
        go_wp2
        go_ret
        exact ⟨ret_bool (by rw [HE.out, HB.out, Bool.and_true]), HX.out.low⟩
end
end Go.Proofs.Ytdbfcclmmpcijaa
