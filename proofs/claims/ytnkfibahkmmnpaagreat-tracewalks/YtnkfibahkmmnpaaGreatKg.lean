/-
  The walk of the document's good. The walk of the document's does.
-/
import Derived.Deep.Cut
import Derived.Test.YtnkfibahkmmnpaaGreatKf
import Derived.Test.YtnkfibahkmmnpaaGreatVdA
namespace Go.Proofs.YtnkfibahkmmnpaaGreat
open Go.RowKit

theorem guard42 : Tryz.prog.eqGuardType Tryz.prog.depth 79 = false := by kernel_rfl
theorem fields42 : Tryz.prog.underlying 79 = some (.struct (Tryz.prog.fieldsOf 79)) := by kernel_rfl
theorem held42 : Tryz.prog.stoodInHeld 79 = false := by kernel_rfl
theorem equal_q42 (o x y z o2 x2 y2 z2 : Int) (W : World) : (Op.equalIn 10000 79 (.agg #[.int .i64 o, .int .i64 x, .int .i64 y, .int .i64 z]) (.agg #[.int .i64 o2, .int .i64 x2, .int .i64 y2, .int .i64 z2])).run Tryz.prog W = .ok (decide ((o, x, y, z) = (o2, x2, y2, z2))) W := by
  rw [show (10000 : Nat) = 9999 + 1 from rfl, run_equalIn_agg W 9999 79 _ _ fields42 held42]
  simp only [Program.fieldsOf, Tryz.underlying79]
  go_simp
  by_cases h1 : o = o2 <;> by_cases h2 : x = x2 <;> by_cases h3 : y = y2 <;> by_cases h4 : z = z2 <;> simp [h1, h2, h3, h4]
def hasB (p : Int) (q a : Qd) : Bool := decide (a = (p, q.1, q.2.2.1, q.2.2.2))
def oneB (p : Int) (l : List Qd) (q : Qd) : Bool := q.2.1 == 2 && l.any (hasB p q)
theorem com_one (r : Rg) (p : Int) (l : List Qd) : comB r p l = (r.kind == 0 && r.ways.all (oneB p l)) := by
  unfold comB
  congr 2
  funext x
  obtain ⟨x0, x1, x2, x3⟩ := x
  unfold oneB
  rw [Bool.eq_iff_iff]
  simp only [List.any_eq_true, Bool.and_eq_true, beq_iff_eq, folB, hasB, decide_eq_true_eq]
  constructor
  · rintro ⟨⟨a0, a1, a2, a3⟩, ha, h1, h2, h3⟩
    simp only [Prod.mk.injEq] at h2
    exact ⟨h2.1, _, ha, by simp only [Prod.mk.injEq]; exact ⟨h1, h3.symm, h2.2.1.symm, h2.2.2.symm⟩⟩
  · rintro ⟨h1, ⟨a0, a1, a2, a3⟩, ha, h2⟩
    simp only [Prod.mk.injEq] at h2
    exact ⟨_, ha, h2.1, by simp only [Prod.mk.injEq]; exact ⟨h1, h2.2.2.1.symm, h2.2.2.2.symm⟩, h2.2.1.symm⟩
theorem all_snoc {l : List Qd} {f : Qd → Bool} {k : Nat} {q : Qd} (h : l[k]? = some q) (h0 : (l.take k).all f = true) (h1 : f q = true) : (l.take (k + 1)).all f = true := by
  rw [take_snoc h, List.all_append, h0]; simp [h1]
theorem all_no {l : List Qd} {f : Qd → Bool} {k : Nat} {q : Qd} (h : l[k]? = some q) (h1 : f q = false) : l.all f = false := by
  rw [List.all_eq_false]
  exact ⟨q, List.mem_of_getElem? h, by rw [h1]; decide⟩
theorem any_snoc {l : List Qd} {f : Qd → Bool} {k : Nat} {q : Qd} (h : l[k]? = some q) : (l.take (k + 1)).any f = ((l.take k).any f || f q) := by
  rw [take_snoc h, List.any_append]; simp
def goodB (p : Int) (r : Rg) (l : List Qd) : Bool := if p = 0 then begB r else comB r p l
/-- The register's box. -/
structure Gd (w wr : World) (cs : Array Value) : Prop where
  low : Below w.heap.size w wr
  box : wr.heap[w.heap.size]? = some (.cells cs 142 (0, 0))
theorem Gd.next {w wr w2 : World} {cs : Array Value} (h : Gd w wr cs) (hb : Below wr.heap.size wr w2) : Gd w w2 cs := ⟨below_two h.low hb, row_next h.box hb⟩
theorem Gd.cell {w wr : World} {cs : Array Value} (h : Gd w wr cs) (i : Nat) (v : Value) (hv : cs[i]? = some v) : wr.cell? ⟨w.heap.size, i, none⟩ = some v := cell_block h.box i v hv
section
variable {w0 w : World} {b : Nat} {c : Cd} {s : Ls} {S : St} {wv : Nat → Value} {gr gk gw R P : Nat}
set_option maxRecDepth 10000 in
set_option maxHeartbeats 2000000 in
theorem dgood_calls (p : Int) (r : Rg) (q0 q1 : Bool) (ao : Option Addr) (n cap : Nat) (g : Int) (h : Dl w0 w b c s S wv gr gk gw R P) (hq : QdsAt w ao n r.ways) :
    Calls Tryz.prog 67 #[.pointer (some ⟨b, 0, none⟩), .int .i64 p, .agg #[.bool q0, .bool q1, .int .i64 r.kind, .int .i64 r.plane, .int .i64 r.step, .slice ao n cap, .int .i64 g]] w fun e w' => e = .returned (.bool (goodB p r c.arrows)) ∧ Below w.heap.size w w' := by
  have hm := hq.short
  have hm2 := h.cd.arrows.short
  unfold maxLen at hm hm2
  have HQ : Hid (QdsAt w ao n r.ways) := hq
  have HN : Hid (r.ways.length = n) := hq.length
  have HD : Hid (Dl w0 w b c s S wv gr gk gw R P) := h
  have hlb := lt_block h.box
  have HRn : Hid (c.arrows.length = s.r.n) := h.cd.arrows.length
  clear h hq
  have HG : Hid (Gd w (w.alloc (.cells #[.bool q0, .bool q1, .int .i64 r.kind, .int .i64 r.plane, .int .i64 r.step, .slice ao n cap, .int .i64 g] 142)) #[.bool q0, .bool q1, .int .i64 r.kind, .int .i64 r.plane, .int .i64 r.step, .slice ao n cap, .int .i64 g]) := ⟨below_new _, heap_alloc_new _ _⟩
  by_cases hp : p = 0
  · have HE : Hid ((goodB p r c.arrows) = ((r.ways.all fun x => orB x.2.1) && orB r.kind)) := by show _ = _; rw [goodB, if_pos hp]; rfl
    have hp0 : (p == 0) = true := by simp [hp]
    clear hp
    go_enter Tryz.func67, Tryz.ntmps67
    go_wp2
    go_loopw [7] (fun i wr => ∃ j : Nat, j ≤ n ∧ i = .int .i64 j ∧ (r.ways.take j).all (fun x => orB x.2.1) = true ∧ Gd w wr #[.bool q0, .bool q1, .int .i64 r.kind, .int .i64 r.plane, .int .i64 r.step, .slice ao n cap, .int .i64 g]) (fun i _ => n - (intOf i).toNat)
    case atStart => exact ⟨0, Nat.zero_le _, rfl, rfl, HG.out⟩
    case round =>
      obtain ⟨j, hj, rfl, hall, hg⟩ := hrel
      have HA : Hid ((r.ways.take j).all (fun x => orB x.2.1) = true) := hall
      have HX : Hid (Gd w wr #[.bool q0, .bool q1, .int .i64 r.kind, .int .i64 r.plane, .int .i64 r.step, .slice ao n cap, .int .i64 g]) := hg
      clear hall hg HG
      have x5 := HX.out.cell 5 (.slice ao n cap) rfl
      by_cases hlt : j < n
      · obtain ⟨q, hq⟩ := get_lt (l := r.ways) (k := j) (by rw [HN.out]; exact hlt)
        obtain ⟨bb, off, rfl, hcs⟩ := (HQ.out.below HX.out.low).cells (by omega)
        obtain ⟨c1, c2, c3, c4⟩ := hcs j q hq
        have HGq : Hid (r.ways[j]? = some q) := hq
        clear hcs hq c1 c3 c4
        obtain ⟨x0, z, x2, x3⟩ := q
        simp only at c2
        obtain ⟨r1, h1⟩ : ∃ r, (z == 0) = r := ⟨_, rfl⟩
        obtain ⟨r2, h2⟩ : ∃ r, (z == 1) = r := ⟨_, rfl⟩
        have HO : Hid (orB z = (r1 || r2)) := by show _ = _; rw [orB, h1, h2]
        have h1' : (z != 0) = !r1 := by rw [← h1]; rfl
        have h2' : (z != 1) = !r2 := by rw [← h2]; rfl
        clear h1 h2
        cases r1
        · cases r2
          · have HB : Hid ((r.ways.all fun x => orB x.2.1) = false) := all_no HGq.out HO.out
            go_wp2
            go_ret
            exact ⟨ret_bool (by rw [HE.out, HB.out]; rfl), HX.out.low⟩
          · have HB : Hid ((r.ways.take (j + 1)).all (fun x => orB x.2.1) = true) := all_snoc HGq.out HA.out HO.out
            go_wp2
            go_roundw
            case rel => exact ⟨j + 1, by omega, by go_num, HB.out, HX.out⟩
            case measure => simp [intOf]; omega
        · have HB : Hid ((r.ways.take (j + 1)).all (fun x => orB x.2.1) = true) := all_snoc HGq.out HA.out (by show orB z = true; rw [HO.out]; rfl)
          go_wp2
          go_roundw
          case rel => exact ⟨j + 1, by omega, by go_num, HB.out, HX.out⟩
          case measure => simp [intOf]; omega
      · obtain rfl : j = n := by omega
        have HB : Hid ((r.ways.all fun x => orB x.2.1) = true) := by
          show _ = _
          have := HA.out
          rwa [List.take_of_length_le (by rw [HN.out]; exact Nat.le_refl _)] at this
        have x2 := HX.out.cell 2 (.int .i64 r.kind) rfl
        obtain ⟨r1, h1⟩ : ∃ x, (r.kind == 0) = x := ⟨_, rfl⟩
        obtain ⟨r2, h2⟩ : ∃ x, (r.kind == 1) = x := ⟨_, rfl⟩
        have HO : Hid (orB r.kind = (r1 || r2)) := by show _ = _; rw [orB, h1, h2]
        cases r1
        · go_wp2
          go_ret
          exact ⟨ret_bool (by rw [HE.out, HB.out, HO.out]; rfl), HX.out.low⟩
        · go_wp2
          go_ret
          exact ⟨ret_bool (by rw [HE.out, HB.out, HO.out]; rfl), HX.out.low⟩
  · have HE : Hid ((goodB p r c.arrows) = (r.kind == 0 && r.ways.all (oneB p c.arrows))) := by show _ = _; rw [goodB, if_neg hp]; exact com_one r p c.arrows
    have hp0 : (p == 0) = false := by simp [hp]
    clear hp
    go_enter Tryz.func67, Tryz.ntmps67
    go_wp2
    go_loopw [8, 9, 10, 11] (fun i _ _ _ wr => ∃ j : Nat, j ≤ n ∧ i = .int .i64 j ∧ (r.ways.take j).all (oneB p c.arrows) = true ∧ Gd w wr #[.bool q0, .bool q1, .int .i64 r.kind, .int .i64 r.plane, .int .i64 r.step, .slice ao n cap, .int .i64 g]) (fun i _ _ _ _ => n - (intOf i).toNat)
    case atStart => exact ⟨0, Nat.zero_le _, rfl, rfl, HG.out⟩
    case round =>
      obtain ⟨j, hj, rfl, hall, hg⟩ := hrel
      have HA : Hid ((r.ways.take j).all (oneB p c.arrows) = true) := hall
      have HX : Hid (Gd w wr #[.bool q0, .bool q1, .int .i64 r.kind, .int .i64 r.plane, .int .i64 r.step, .slice ao n cap, .int .i64 g]) := hg
      clear hall hg HG
      have x5 := HX.out.cell 5 (.slice ao n cap) rfl
      by_cases hlt : j < n
      · obtain ⟨q, hq⟩ := get_lt (l := r.ways) (k := j) (by rw [HN.out]; exact hlt)
        obtain ⟨bb, off, rfl, hcs⟩ := (HQ.out.below HX.out.low).cells (by omega)
        obtain ⟨c1, c2, c3, c4⟩ := hcs j q hq
        have HGq : Hid (r.ways[j]? = some q) := hq
        clear hcs hq
        obtain ⟨x0, x1, x2, x3⟩ := q
        simp only at c1 c2 c3 c4
        go_upto_region 12 with (fail)
        have HX1 : Hid (Gd w (wr.alloc (.cells #[.int .i64 x0, .int .i64 x1, .int .i64 x2, .int .i64 x3] 162)) #[.bool q0, .bool q1, .int .i64 r.kind, .int .i64 r.plane, .int .i64 r.step, .slice (some ⟨bb, off, none⟩) n cap, .int .i64 g]) := HX.out.next (below_new _)
        have HB1 : Hid ((wr.alloc (.cells #[.int .i64 x0, .int .i64 x1, .int .i64 x2, .int .i64 x3] 162)).heap[wr.heap.size]? = some (.cells #[.int .i64 x0, .int .i64 x1, .int .i64 x2, .int .i64 x3] 162 (0, 0))) := heap_alloc_new _ _
        clear c1 c2 c3 c4 x5 HX
        generalize wr.alloc (.cells #[.int .i64 x0, .int .i64 x1, .int .i64 x2, .int .i64 x3] 162) = wd at *
        generalize wr.heap.size = gx at *
        clear wr
        go_wp2
        go_loopw [10, 11] (fun t i wr => ∃ m : Nat, m ≤ s.r.n ∧ i = .int .i64 m ∧ t = .bool ((c.arrows.take m).any (hasB p (x0, x1, x2, x3))) ∧ Gd w wr #[.bool q0, .bool q1, .int .i64 r.kind, .int .i64 r.plane, .int .i64 r.step, .slice (some ⟨bb, off, none⟩) n cap, .int .i64 g] ∧ wr.heap[gx]? = some (.cells #[.int .i64 x0, .int .i64 x1, .int .i64 x2, .int .i64 x3] 162 (0, 0))) (fun _ i _ => s.r.n - (intOf i).toNat)
        case atStart => exact ⟨0, Nat.zero_le _, rfl, rfl, HX1.out, HB1.out⟩
        case round =>
          obtain ⟨m, hmm, rfl, rfl, hx2, hb2⟩ := hrel
          have HX2 : Hid (Gd w wr #[.bool q0, .bool q1, .int .i64 r.kind, .int .i64 r.plane, .int .i64 r.step, .slice (some ⟨bb, off, none⟩) n cap, .int .i64 g]) := hx2
          have HB2 : Hid (wr.heap[gx]? = some (.cells #[.int .i64 x0, .int .i64 x1, .int .i64 x2, .int .i64 x3] 162 (0, 0))) := hb2
          clear hx2 hb2 HX1 HB1
          have k9 := (HD.out.next HX2.out.low).cell 9 (v := .slice s.r.a s.r.n s.r.c) rfl
          obtain ⟨tt, htt⟩ : ∃ t, (c.arrows.take m).any (hasB p (x0, x1, x2, x3)) = t := ⟨_, rfl⟩
          have HT : Hid ((c.arrows.take m).any (hasB p (x0, x1, x2, x3)) = tt) := htt
          rw [htt]
          clear htt
          have b0 := cell_block HB2.out 0 (.int .i64 x0) rfl
          have b1 := cell_block HB2.out 1 (.int .i64 x1) rfl
          have b2 := cell_block HB2.out 2 (.int .i64 x2) rfl
          have b3 := cell_block HB2.out 3 (.int .i64 x3) rfl
          by_cases hlt2 : m < s.r.n
          · obtain ⟨a, ha⟩ := get_lt (l := c.arrows) (k := m) (by rw [HRn.out]; exact hlt2)
            obtain ⟨ba, oa, hra, hca⟩ := ((HD.out.next HX2.out.low).at').arrows.cells (by omega)
            obtain ⟨c1, c2, c3, c4⟩ := hca m a ha
            have HAa : Hid (c.arrows[m]? = some a) := ha
            clear hca ha
            obtain ⟨a0, a1, a2, a3⟩ := a
            simp only at c1 c2 c3 c4
            have HRA : Hid (s.r.a = some ⟨ba, oa, none⟩) := hra
            rw [hra] at k9
            clear hra
            have he := equal_q42 a0 a1 a2 a3 p x0 x2 x3
            have hgd := guard42
            obtain ⟨e1, h1⟩ : ∃ e, decide ((a0, a1, a2, a3) = (p, x0, x2, x3)) = e := ⟨_, rfl⟩
            have HS : Hid ((c.arrows.take (m + 1)).any (hasB p (x0, x1, x2, x3)) = (tt || e1)) := by show _ = _; rw [any_snoc HAa.out, HT.out, ← h1]; rfl
            rw [h1] at he
            clear h1 HT
            cases e1
            · go_wp2_with fail
              go_quiet (fail)
              have HX3 : Hid (Gd w (wr.drewN nq) #[.bool q0, .bool q1, .int .i64 r.kind, .int .i64 r.plane, .int .i64 r.step, .slice (some ⟨bb, off, none⟩) n cap, .int .i64 g] ∧ (wr.drewN nq).heap[gx]? = some (.cells #[.int .i64 x0, .int .i64 x1, .int .i64 x2, .int .i64 x3] 162 (0, 0))) := ⟨HX2.out.next (below_drewN (Below.refl _ _) nq), row_next HB2.out (below_drewN (Below.refl _ _) nq)⟩
              generalize wr.drewN nq = wz at *
              clear b0 b1 b2 b3 c1 c2 c3 c4 k9 he
              go_wp2
              go_roundw
              case rel => exact ⟨m + 1, by omega, by go_num, by rw [HS.out, Bool.or_false], HX3.out.1, HX3.out.2⟩
              case measure => simp [intOf]; omega
            · go_wp2_with fail
              go_quiet (fail)
              have HX3 : Hid (Gd w (wr.drewN nq) #[.bool q0, .bool q1, .int .i64 r.kind, .int .i64 r.plane, .int .i64 r.step, .slice (some ⟨bb, off, none⟩) n cap, .int .i64 g] ∧ (wr.drewN nq).heap[gx]? = some (.cells #[.int .i64 x0, .int .i64 x1, .int .i64 x2, .int .i64 x3] 162 (0, 0))) := ⟨HX2.out.next (below_drewN (Below.refl _ _) nq), row_next HB2.out (below_drewN (Below.refl _ _) nq)⟩
              generalize wr.drewN nq = wz at *
              clear b0 b1 b2 b3 c1 c2 c3 c4 k9 he
              go_wp2
              go_roundw
              case rel => exact ⟨m + 1, by omega, by go_num, by rw [HS.out, Bool.or_true], HX3.out.1, HX3.out.2⟩
              case measure => simp [intOf]; omega
          · obtain rfl : m = s.r.n := by omega
            have HT2 : Hid (oneB p c.arrows (x0, x1, x2, x3) = (x1 == 2 && tt)) := by
              show _ = _
              rw [← HT.out, List.take_of_length_le (by rw [HRn.out]; exact Nat.le_refl _)]; rfl
            obtain ⟨r1, h1⟩ : ∃ x, (x1 == 2) = x := ⟨_, rfl⟩
            rw [h1] at HT2
            have h1' : (x1 != 2) = !r1 := by rw [← h1]; rfl
            clear h1
            clear HT b0 b2 b3
            cases r1
            · have HB : Hid (r.ways.all (oneB p c.arrows) = false) := all_no HGq.out HT2.out
              go_wp2
              go_ret
              exact ⟨ret_bool (by rw [HE.out, HB.out, Bool.and_false]), HX2.out.low⟩
            · cases tt
              · have HB : Hid (r.ways.all (oneB p c.arrows) = false) := all_no HGq.out HT2.out
                go_wp2
                go_ret
                exact ⟨ret_bool (by rw [HE.out, HB.out, Bool.and_false]), HX2.out.low⟩
              · have HB : Hid ((r.ways.take (j + 1)).all (oneB p c.arrows) = true) := all_snoc HGq.out HA.out HT2.out
                go_wp2
                go_roundw
                case rel => exact ⟨j + 1, by omega, by go_num, HB.out, HX2.out⟩
                case measure => simp [intOf]; omega
      · obtain rfl : j = n := by omega
        have HB : Hid (r.ways.all (oneB p c.arrows) = true) := by
          show _ = _
          have := HA.out
          rwa [List.take_of_length_le (by rw [HN.out]; exact Nat.le_refl _)] at this
        have x2 := HX.out.cell 2 (.int .i64 r.kind) rfl
        go_wp2
        go_ret
        exact ⟨ret_bool (by rw [HE.out, HB.out, Bool.and_true]), HX.out.low⟩
end
end Go.Proofs.YtnkfibahkmmnpaaGreat
namespace Go.Proofs.YtnkfibahkmmnpaaGreat
open Go.RowKit

section
variable {w0 w : World} {b : Nat} {c : Cd} {s : Ls} {S : St} {wv : Nat → Value} {gr gk gw R P : Nat}
/-- The look's rows, while a register is being written. -/
structure Da (w0 w : World) (b : Nat) (c : Cd) (s : Ls) (S : St) (wv : Nat → Value) (gr gk gw R P k : Nat) (A : Array Value) : Prop where
  box : w.heap[b]? = some (.cells (dlCells c s S.top gr gk gw R P) 99 (0, 0))
  regs : w.heap[gr]? = some (.cells A 142 (0, 0))
  kept : w.heap[gk]? = some (.cells (kpC S P) 4 (0, 0))
  wgt : w.heap[gw]? = some (.cells (wgC S P) 3 (0, 0))
  cd : CdAt w0 c s
  low : Below w0.heap.size w0 w
  le : w0.heap.size ≤ b ∧ w0.heap.size ≤ gr ∧ w0.heap.size ≤ gk ∧ w0.heap.size ≤ gw
  rows : ∀ r, r < R → r ≠ k → w.ownsRow w0.heap.size 162 4 (wv r) (S.regs r).ways.length (qdVals (S.regs r).ways)
theorem Da.set {k : Nat} {A : Array Value} (h : Da w0 w b c s S wv gr gk gw R P k A) (i : Nat) (v : Value) : Da w0 (w.setCell ⟨gr, i, none⟩ v) b c s S wv gr gk gw R P k (A.setIfInBounds i v) :=
  ⟨by rw [heap_setOther _ h.regs h.box (by decide)]; exact h.box, heap_setCell_same _ _ _ _ _ _ h.regs, by rw [heap_setOther _ h.regs h.kept (by decide)]; exact h.kept, by rw [heap_setOther _ h.regs h.wgt (by decide)]; exact h.wgt, h.cd, h.low.setCell (p := ⟨gr, i, none⟩) h.le.2.1 v, h.le, fun r hr hne => owned_setOther (h.rows r hr hne) h.regs (by decide) v⟩
def seven7 (A : Array Value) (k : Nat) (v0 v1 v2 v3 v4 v5 v6 : Value) : Array Value := ((((((A.setIfInBounds (k * 7) v0).setIfInBounds (k * 7 + 1) v1).setIfInBounds (k * 7 + 2) v2).setIfInBounds (k * 7 + 3) v3).setIfInBounds (k * 7 + 4) v4).setIfInBounds (k * 7 + 5) v5).setIfInBounds (k * 7 + 6) v6
theorem seven_is (S : St) (wv : Nat → Value) (R : Nat) {k : Nat} (x : Rg) (u : Value) : seven7 (rgC S wv R) k (rdCell x u 0) (rdCell x u 1) (rdCell x u 2) (rdCell x u 3) (rdCell x u 4) (rdCell x u 5) (rdCell x u 6) = rgC (setR S k x) (upV wv k u) R := by
  unfold seven7
  apply Array.ext_getElem?
  intro j
  have hs : (rgC S wv R).size = R * 7 := by simp [rgC]
  have hs2 : (rgC (setR S k x) (upV wv k u) R).size = R * 7 := by simp [rgC]
  by_cases hj : j < R * 7
  · have e1 : (rgC S wv R)[j]? = some (rdCell (S.regs (j / 7)) (wv (j / 7)) (j % 7)) := by simp [rgC, hj]
    have e2 : (rgC (setR S k x) (upV wv k u) R)[j]? = some (rdCell (updR S.regs k x (j / 7)) (upV wv k u (j / 7)) (j % 7)) := by simp [rgC, hj, setR]
    rw [e2]
    simp only [Array.getElem?_setIfInBounds, Array.size_setIfInBounds, hs, e1]
    by_cases ek : j / 7 = k
    · rw [ek, updR_same, upV_same]
      have : j % 7 = 0 ∨ j % 7 = 1 ∨ j % 7 = 2 ∨ j % 7 = 3 ∨ j % 7 = 4 ∨ j % 7 = 5 ∨ j % 7 = 6 := by omega
      rcases this with e | e | e | e | e | e | e
      · have : j = k * 7 := by omega
        subst this; simp [e, hj]
      · have : j = k * 7 + 1 := by omega
        subst this; simp [e, hj]
      · have : j = k * 7 + 2 := by omega
        subst this; simp [e, hj]
      · have : j = k * 7 + 3 := by omega
        subst this; simp [e, hj]
      · have : j = k * 7 + 4 := by omega
        subst this; simp [e, hj]
      · have : j = k * 7 + 5 := by omega
        subst this; simp [e, hj]
      · have : j = k * 7 + 6 := by omega
        subst this; simp [e, hj]
    · rw [updR_ne _ _ ek, upV_ne _ _ ek, if_neg (by omega), if_neg (by omega), if_neg (by omega), if_neg (by omega), if_neg (by omega), if_neg (by omega), if_neg (by omega)]
  · rw [Array.getElem?_eq_none (by simp [hs]; omega), Array.getElem?_eq_none (by omega)]
/-- A whole register is laid anew. -/
theorem Dl.write (h : Dl w0 w b c s S wv gr gk gw R P) (k : Nat) (d p t : Int) (g : Int) :
    Dl w0 (((((((w.setCell ⟨gr, k * 7, none⟩ (.bool true)).setCell ⟨gr, k * 7 + 1, none⟩ (.bool true)).setCell ⟨gr, k * 7 + 2, none⟩ (.int .i64 d)).setCell ⟨gr, k * 7 + 3, none⟩ (.int .i64 p)).setCell ⟨gr, k * 7 + 4, none⟩ (.int .i64 t)).setCell ⟨gr, k * 7 + 5, none⟩ (.slice none 0 0)).setCell ⟨gr, k * 7 + 6, none⟩ (.int .i64 g)) b c s (setR S k ⟨true, d, p, t, false, [], g⟩) (upV wv k (.slice none 0 0)) gr gk gw R P := by
  have h0 : Da w0 w b c s S wv gr gk gw R P k (rgC S wv R) := ⟨h.box, h.regs, h.kept, h.wgt, h.cd, h.low, h.le, fun r hr _ => h.rows r hr⟩
  have h7 := ((((((h0.set (k * 7) (.bool true)).set (k * 7 + 1) (.bool true)).set (k * 7 + 2) (.int .i64 d)).set (k * 7 + 3) (.int .i64 p)).set (k * 7 + 4) (.int .i64 t)).set (k * 7 + 5) (.slice none 0 0)).set (k * 7 + 6) (.int .i64 g)
  refine ⟨h7.box, ?_, h7.kept, h7.wgt, h7.cd, h7.low, h7.le, fun r hr => ?_, fun r r' hr hr' hne => ?_⟩
  · rw [h7.regs]
    have := seven_is S wv R (k := k) ⟨true, d, p, t, false, [], g⟩ (.slice none 0 0)
    rw [← this]; rfl
  · show World.ownsRow _ _ _ _ (upV wv k (.slice none 0 0) r) (updR S.regs k ⟨true, d, p, t, false, [], g⟩ r).ways.length (qdVals (updR S.regs k ⟨true, d, p, t, false, [], g⟩ r).ways)
    by_cases e : r = k
    · subst e; rw [updR_same, upV_same]; exact own_nil _ _ _
    · rw [updR_ne _ _ e, upV_ne _ _ e]; exact h7.rows r hr e
  · by_cases e : r = k
    · subst e; rw [upV_same]; exact .inl rfl
    · rw [upV_ne _ _ e]
      by_cases e2 : r' = k
      · subst e2; rw [upV_same]
        by_cases h1 : (wv r).ownBlock = none
        · exact .inl h1
        · exact .inr h1
      · rw [upV_ne _ _ e2]; exact h.apart r r' hr hr' hne
/-- No weight is greater than the greatest. -/
structure Wt (S : St) : Prop where
  reg : ∀ r, (S.regs r).weight ≤ max S.top 1
  pl : ∀ p, (S.pl p).2 ≤ max S.top 1
  reg0 : ∀ r, 0 ≤ (S.regs r).weight
  pl0 : ∀ p, 0 ≤ (S.pl p).2

theorem Dl.drew (h : Dl w0 w b c s S wv gr gk gw R P) : Dl w0 w.drew b c s S wv gr gk gw R P := h.next (below_drewN (Below.refl _ _) 1)
theorem Dl.alloc (h : Dl w0 w b c s S wv gr gk gw R P) (o : Obj) : Dl w0 (w.alloc o) b c s S wv gr gk gw R P := h.next (below_new o)
theorem past1 (S : St) (x y z : Nat) : pastP S (1, x, y, z) = weighP (setR S x ⟨true, 0, 0, 0, false, [], 0⟩) 0 := by simp [pastP, writeP, rg0]
theorem past2 (S : St) (x y z : Nat) : pastP S (2, x, y, z) = weighP (setR S x ⟨true, 1, 0, 0, false, [], 1⟩) 1 := by simp [pastP, writeP]
theorem past3 (S : St) (x y z : Nat) (hz : z ≠ 0) : pastP S (3, x, y, z) = weighP (setR S x ⟨true, 2, y, z, false, [], 0⟩) 0 := by simp [pastP, writeP, loadB, hz]
theorem past3z (S : St) (x y : Nat) : pastP S (3, x, y, (0 : Nat)) = weighP (setR S x ⟨true, 3, 0, 0, false, [], (S.pl y).2⟩) (S.pl y).2 := by simp [pastP, writeP, loadB]
theorem past7 (S : St) (x y z : Nat) : pastP S (7, x, y, z) = setP S x (true, (S.regs y).weight) := by simp [pastP]

set_option maxRecDepth 10000 in
set_option maxHeartbeats 1000000 in
theorem ddoes1 (x y z : Nat) (h : Dl w0 w b c s S wv gr gk gw R P) (hn : x < R) :
    Calls Tryz.prog 68 #[.pointer (some ⟨b, 0, none⟩), .agg #[.int .i64 1, .int .i64 x, .int .i64 y, .int .i64 z]] w fun e w' => e = .returned (.tuple #[]) ∧ ∃ wv', Dl w0 w' b c s (pastP S (1, x, y, z)) wv' gr gk gw R P := by
  have hlb := lt_block h.box
  have hlr := lt_block h.regs
  have k10 := h.cell 10 (v := .slice (some ⟨gr, 0, none⟩) R R) rfl
  have r0 := h.reg x 0 hn (by omega) rfl
  have r1 := h.reg x 1 hn (by omega) rfl
  have r2 := h.reg x 2 hn (by omega) rfl
  have r3 := h.reg x 3 hn (by omega) rfl
  have r4 := h.reg x 4 hn (by omega) rfl
  have r5 := h.reg x 5 hn (by omega) rfl
  have r6 := h.reg x 6 hn (by omega) rfl
  rw [Nat.add_zero] at r0
  have rf := h.rfz
  have HP : Hid (pastP S (1, x, y, z) = _) := past1 S x y z
  have HD : Hid (∀ o, Dl w0 ((((((((w.setCell ⟨gr, x * 7, none⟩ (.bool true)).setCell ⟨gr, x * 7 + 1, none⟩ (.bool true)).setCell ⟨gr, x * 7 + 2, none⟩ (.int .i64 0)).setCell ⟨gr, x * 7 + 3, none⟩ (.int .i64 0)).setCell ⟨gr, x * 7 + 4, none⟩ (.int .i64 0)).setCell ⟨gr, x * 7 + 5, none⟩ (.slice none 0 0)).setCell ⟨gr, x * 7 + 6, none⟩ (.int .i64 0)).alloc o).drew b c s _ _ gr gk gw R P) := fun o => (((h.write x 0 0 0 0).light 0 (by omega)).alloc o).drew
  clear h
  go_enter Tryz.func68, Tryz.ntmps68
  go_wp2_with fail
  go_region
  go_wp2
  go_end0
  exact ⟨rfl, _, by rw [HP.out]; exact HD.out _⟩
set_option maxRecDepth 10000 in
set_option maxHeartbeats 1000000 in
theorem ddoes2 (x y z : Nat) (h : Dl w0 w b c s S wv gr gk gw R P) (hn : x < R) :
    Calls Tryz.prog 68 #[.pointer (some ⟨b, 0, none⟩), .agg #[.int .i64 2, .int .i64 x, .int .i64 y, .int .i64 z]] w fun e w' => e = .returned (.tuple #[]) ∧ ∃ wv', Dl w0 w' b c s (pastP S (2, x, y, z)) wv' gr gk gw R P := by
  have hlb := lt_block h.box
  have hlr := lt_block h.regs
  have k10 := h.cell 10 (v := .slice (some ⟨gr, 0, none⟩) R R) rfl
  have r0 := h.reg x 0 hn (by omega) rfl
  have r1 := h.reg x 1 hn (by omega) rfl
  have r2 := h.reg x 2 hn (by omega) rfl
  have r3 := h.reg x 3 hn (by omega) rfl
  have r4 := h.reg x 4 hn (by omega) rfl
  have r5 := h.reg x 5 hn (by omega) rfl
  have r6 := h.reg x 6 hn (by omega) rfl
  rw [Nat.add_zero] at r0
  have rf := h.rfz
  have HP : Hid (pastP S (2, x, y, z) = _) := past2 S x y z
  have HD : Hid (∀ o, Dl w0 ((((((((w.setCell ⟨gr, x * 7, none⟩ (.bool true)).setCell ⟨gr, x * 7 + 1, none⟩ (.bool true)).setCell ⟨gr, x * 7 + 2, none⟩ (.int .i64 1)).setCell ⟨gr, x * 7 + 3, none⟩ (.int .i64 0)).setCell ⟨gr, x * 7 + 4, none⟩ (.int .i64 0)).setCell ⟨gr, x * 7 + 5, none⟩ (.slice none 0 0)).setCell ⟨gr, x * 7 + 6, none⟩ (.int .i64 1)).alloc o).drew b c s _ _ gr gk gw R P) := fun o => (((h.write x 1 0 0 1).light 1 (by omega)).alloc o).drew
  clear h
  go_enter Tryz.func68, Tryz.ntmps68
  go_wp2_with fail
  go_region
  go_wp2
  go_end0
  exact ⟨rfl, _, by rw [HP.out]; exact HD.out _⟩
set_option maxRecDepth 10000 in
set_option maxHeartbeats 1000000 in
theorem ddoes3n (x y z : Nat) (h : Dl w0 w b c s S wv gr gk gw R P) (hn : x < R) (hz : z ≠ 0) :
    Calls Tryz.prog 68 #[.pointer (some ⟨b, 0, none⟩), .agg #[.int .i64 3, .int .i64 x, .int .i64 y, .int .i64 z]] w fun e w' => e = .returned (.tuple #[]) ∧ ∃ wv', Dl w0 w' b c s (pastP S (3, x, y, z)) wv' gr gk gw R P := by
  have hlb := lt_block h.box
  have hlr := lt_block h.regs
  have k10 := h.cell 10 (v := .slice (some ⟨gr, 0, none⟩) R R) rfl
  have r0 := h.reg x 0 hn (by omega) rfl
  have r1 := h.reg x 1 hn (by omega) rfl
  have r2 := h.reg x 2 hn (by omega) rfl
  have r3 := h.reg x 3 hn (by omega) rfl
  have r4 := h.reg x 4 hn (by omega) rfl
  have r5 := h.reg x 5 hn (by omega) rfl
  have r6 := h.reg x 6 hn (by omega) rfl
  rw [Nat.add_zero] at r0
  have rf := h.rfz
  have hz0 : ((z : Int) == 0) = false := by simp [hz]
  have HP : Hid (pastP S (3, x, y, z) = _) := past3 S x y z hz
  have HD : Hid (∀ o o2, Dl w0 (((((((((w.setCell ⟨gr, x * 7, none⟩ (.bool true)).setCell ⟨gr, x * 7 + 1, none⟩ (.bool true)).setCell ⟨gr, x * 7 + 2, none⟩ (.int .i64 2)).setCell ⟨gr, x * 7 + 3, none⟩ (.int .i64 y)).setCell ⟨gr, x * 7 + 4, none⟩ (.int .i64 z)).setCell ⟨gr, x * 7 + 5, none⟩ (.slice none 0 0)).setCell ⟨gr, x * 7 + 6, none⟩ (.int .i64 0)).alloc o).alloc o2).drew b c s _ _ gr gk gw R P) := fun o o2 => ((((h.write x 2 y z 0).light 0 (by omega)).alloc o).alloc o2).drew
  clear h hz
  go_enter Tryz.func68, Tryz.ntmps68
  go_wp2_with fail
  go_region
  go_wp2
  go_end0
  exact ⟨rfl, _, by rw [HP.out]; exact HD.out _ _⟩
set_option maxRecDepth 10000 in
set_option maxHeartbeats 1000000 in
theorem ddoes3z (x y : Nat) (h : Dl w0 w b c s S wv gr gk gw R P) (hn : x < R) (hy : y < P) (hw : (S.pl y).2 ≤ max S.top 1) :
    Calls Tryz.prog 68 #[.pointer (some ⟨b, 0, none⟩), .agg #[.int .i64 3, .int .i64 x, .int .i64 y, .int .i64 0]] w fun e w' => e = .returned (.tuple #[]) ∧ ∃ wv', Dl w0 w' b c s (pastP S (3, x, y, (0 : Nat))) wv' gr gk gw R P := by
  have hlb := lt_block h.box
  have hlr := lt_block h.regs
  have k10 := h.cell 10 (v := .slice (some ⟨gr, 0, none⟩) R R) rfl
  have r0 := h.reg x 0 hn (by omega) rfl
  have r1 := h.reg x 1 hn (by omega) rfl
  have r2 := h.reg x 2 hn (by omega) rfl
  have r3 := h.reg x 3 hn (by omega) rfl
  have r4 := h.reg x 4 hn (by omega) rfl
  have r5 := h.reg x 5 hn (by omega) rfl
  have r6 := h.reg x 6 hn (by omega) rfl
  rw [Nat.add_zero] at r0
  have rf := h.rfz
  have k12 := h.cell 12 (v := .slice (some ⟨gw, 0, none⟩) P P) rfl
  have hlw := lt_block h.wgt
  have p2 := h.wg y hy
  have HP : Hid (pastP S (3, x, y, (0 : Nat)) = _) := past3z S x y
  have HD : Hid (∀ o o2, Dl w0 (((((((((w.setCell ⟨gr, x * 7, none⟩ (.bool true)).setCell ⟨gr, x * 7 + 1, none⟩ (.bool true)).setCell ⟨gr, x * 7 + 2, none⟩ (.int .i64 3)).setCell ⟨gr, x * 7 + 3, none⟩ (.int .i64 0)).setCell ⟨gr, x * 7 + 4, none⟩ (.int .i64 0)).setCell ⟨gr, x * 7 + 5, none⟩ (.slice none 0 0)).setCell ⟨gr, x * 7 + 6, none⟩ (.int .i64 (S.pl y).2)).alloc o).alloc o2).drew.drew b c s _ _ gr gk gw R P) := fun o o2 => (((((h.write x 3 0 0 (S.pl y).2).light (S.pl y).2 hw).alloc o).alloc o2).drew).drew
  generalize hpl : (S.pl y).2 = pw at *
  clear h hw hpl
  go_enter Tryz.func68, Tryz.ntmps68
  go_wp2_with fail
  go_region
  go_wp2_with fail
  go_region
  go_wp2
  go_end0
  exact ⟨rfl, _, by rw [HP.out]; exact HD.out _ _⟩
set_option maxRecDepth 10000 in
set_option maxHeartbeats 1000000 in
theorem ddoes7 (x y z : Nat) (h : Dl w0 w b c s S wv gr gk gw R P) (hn : x < P) (hy : y < R) :
    Calls Tryz.prog 68 #[.pointer (some ⟨b, 0, none⟩), .agg #[.int .i64 7, .int .i64 x, .int .i64 y, .int .i64 z]] w fun e w' => e = .returned (.tuple #[]) ∧ ∃ wv', Dl w0 w' b c s (pastP S (7, x, y, z)) wv' gr gk gw R P := by
  have hlb := lt_block h.box
  have hlr := lt_block h.regs
  have k10 := h.cell 10 (v := .slice (some ⟨gr, 0, none⟩) R R) rfl
  have hlk := lt_block h.kept
  have hlw := lt_block h.wgt
  have k11 := h.cell 11 (v := .slice (some ⟨gk, 0, none⟩) P P) rfl
  have k12 := h.cell 12 (v := .slice (some ⟨gw, 0, none⟩) P P) rfl
  have p1 := h.kp x hn
  have f1 := frozen_of_row w gk x _ _ h.kept
  have HP : Hid (pastP S (7, x, y, z) = _) := past7 S x y z
  have HD : Hid (∀ o, Dl w0 ((w.setCell ⟨gk, x, none⟩ (.bool true)).alloc o).drew b c s (setP S x (true, (S.pl x).2)) wv gr gk gw R P) := fun o => ((h.keep1 x true).alloc o).drew
  clear h
  go_enter Tryz.func68, Tryz.ntmps68
  go_wp2_with fail
  go_region
  clear p1 f1 k10 k11 k12 hlb hlr hlk hlw
  go_upto_region 27 with (fail)
  have HW := HD.out (.cells #[.int .i64 7, .int .i64 x, .int .i64 y, .int .i64 z] 65)
  have HB : Hid (((w.setCell ⟨gk, x, none⟩ (.bool true)).alloc (.cells #[.int .i64 7, .int .i64 x, .int .i64 y, .int .i64 z] 65)).drew.heap[w.heap.size]? = some (.cells #[.int .i64 7, .int .i64 x, .int .i64 y, .int .i64 z] 65 (0, 0))) := by
    have := heap_alloc_new (w.setCell ⟨gk, x, none⟩ (.bool true)) (.cells #[.int .i64 7, .int .i64 x, .int .i64 y, .int .i64 z] 65)
    rw [show (w.setCell ⟨gk, x, none⟩ (.bool true)).heap.size = w.heap.size by simp] at this
    exact this
  have HW2 : Hid _ := HW
  clear HD HW
  generalize ((w.setCell ⟨gk, x, none⟩ (.bool true)).alloc (.cells #[.int .i64 7, .int .i64 x, .int .i64 y, .int .i64 z] 65)).drew = wd at *
  generalize w.heap.size = gb at *
  have k10 := HW2.out.cell 10 (v := .slice (some ⟨gr, 0, none⟩) R R) rfl
  have k12 := HW2.out.cell 12 (v := .slice (some ⟨gw, 0, none⟩) P P) rfl
  have p2 := HW2.out.wg x hn
  have f2 := frozen_of_row wd gw x _ _ HW2.out.wgt
  have r6 := HW2.out.reg y 6 hy (by omega) (v := .int .i64 (S.regs y).weight) rfl
  have b0 := cell_block HB.out 0 (.int .i64 7) rfl
  have b1 := cell_block HB.out 1 (.int .i64 x) rfl
  have b2 := cell_block HB.out 2 (.int .i64 y) rfl
  have HF : Hid (Dl w0 (wd.setCell ⟨gw, x, none⟩ (.int .i64 (S.regs y).weight)).drew b c s (setP S x (true, (S.regs y).weight)) wv gr gk gw R P) := by
    have := (HW2.out.keep2 x (S.regs y).weight).drew
    rwa [show setP (setP S x (true, (S.pl x).2)) x (((setP S x (true, (S.pl x).2)).pl x).1, (S.regs y).weight) = setP S x (true, (S.regs y).weight) by
      show setP (setP S x (true, (S.pl x).2)) x ((updP S.pl x (true, (S.pl x).2) x).1, (S.regs y).weight) = _
      rw [updP_same]
      unfold setP updP; congr 1; funext i; simp only; split <;> rfl] at this
  generalize (S.regs y).weight = g at *
  clear HW2 HB
  go_region
  go_wp2
  go_end0
  exact ⟨rfl, _, by rw [HP.out]; exact HF.out⟩
end
end Go.Proofs.YtnkfibahkmmnpaaGreat
