/-
  The walk of the document's Used.
-/
import Derived.Test.YtdbfcclmmpcijaaVuA
import Derived.Test.YtdbfcclmmpcijaaRtC
namespace Go.Proofs.Ytdbfcclmmpcijaa
open Go.RowKit

def hitB (r : Int) (q : Qd) : Bool := q.2.1 == r && wrB q.1
theorem usR_hit (l : List Qd) (regs : Int) (r : Nat) (h : (r : Int) < regs) : usR l regs r = l.any (hitB r) := by
  unfold usR
  congr 1
  funext q
  unfold hitB
  rw [Bool.eq_iff_iff]
  simp only [Bool.and_eq_true, decide_eq_true_eq, beq_iff_eq]
  exact ⟨fun ⟨⟨a, _⟩, b⟩ => ⟨b, a⟩, fun ⟨b, a⟩ => ⟨⟨a, by omega⟩, b⟩⟩
theorem usR_big (l : List Qd) (regs : Int) (r : Nat) (h : regs ≤ (r : Int)) : usR l regs r = false := by
  unfold usR
  rw [List.any_eq_false]
  intro q _ hq
  simp only [Bool.and_eq_true, decide_eq_true_eq, beq_iff_eq] at hq
  omega
theorem usL_more (l : List Qd) (regs : Int) (n : Nat) (h : regs = n) : ∀ m, usL l regs (n + m) = usL l regs n
  | 0 => rfl
  | m + 1 => by rw [← Nat.add_assoc, usL_succ, usR_big l regs (n + m) (by omega), usL_more l regs n h m]; simp
theorem any_step {l : List Qd} {f : Qd → Bool} {k : Nat} {q : Qd} (h : l[k]? = some q) (h0 : (l.take k).any f = false) (h1 : f q = false) : (l.take (k + 1)).any f = false := by
  rw [take_snoc h, List.any_append, h0]; simp [h1]
theorem any_hit {l : List Qd} {f : Qd → Bool} {k m : Nat} {q : Qd} (h : l[k]? = some q) (hk : k < m) (h1 : f q = true) : (l.take m).any f = true := by
  rw [List.any_eq_true]
  refine ⟨q, ?_, h1⟩
  have : (l.take m)[k]? = some q := by rw [List.getElem?_take_of_lt hk]; exact h
  exact List.mem_of_getElem? this
structure Bo (w wr : World) (cs : Array Value) : Prop where
  low : Below w.heap.size w wr
  box : wr.heap[w.heap.size]? = some (.cells cs 26 (0, 0))
theorem Bo.next {w wr w2 : World} {cs : Array Value} (h : Bo w wr cs) (hb : Below wr.heap.size wr w2) : Bo w w2 cs :=
  ⟨h.low.trans (hb.mono h.low.size), by rw [hb.block _ (lt_block h.box)]; exact h.box⟩
theorem Bo.cell {w wr : World} {cs : Array Value} (h : Bo w wr cs) (i : Nat) {v : Value} (hv : cs[i]? = some v) : wr.cell? ⟨w.heap.size, i, none⟩ = some v := cell_block h.box i v hv
theorem Bo.own {w wr w2 : World} {cs : Array Value} (h : Bo w wr cs) {v : Value} {n : Nat} {xs : List Value} (ho : wr.ownsRow w.heap.size 3 1 v n xs) (hg : wr.grownBy w2 v.ownBlock) : Bo w w2 cs := by
  refine ⟨h.low.grown hg h.low.size (own_blk ho), ?_⟩
  rw [hg.block _ (lt_block h.box) (fun e => by
    rcases ho.2 with ⟨hv, _⟩ | ⟨g', cap', cur', hv, _, hg', _⟩
    · rw [hv] at e; cases e
    · rw [hv] at e; simp [Value.ownBlock] at e; subst e; have := h.box; rw [hg'] at this; cases this)]
  exact h.box
set_option maxRecDepth 10000 in
set_option maxHeartbeats 2000000 in
theorem refUsed_calls (c : Cd) (s : Ls) (a : Int) (w : World) (h : CdAt w c s) :
    Calls Try.prog 13 #[.agg (cdCells c s), .int .i64 a] w fun e w' => ∃ v, e = .returned (.tuple #[v, .int .i64 (usdB c a).2]) ∧ w'.ownsRow w.heap.size 3 1 v (usdB c a).1.length (intVals (usdB c a).1) ∧ Below w.heap.size w w' := by
  have HC : Hid (CdAt w c s) := h
  have hm := h.cell.short
  unfold maxLen at hm
  clear h
  obtain ⟨r1, h1⟩ : ∃ r, rightB c = r := ⟨_, rfl⟩
  have H1 : Hid (rightB c = r1) := h1
  clear h1
  rw [show cdCells c s = #[.int .i64 c.letters, .int .i64 c.planes, .int .i64 c.regs, .int .i64 c.lo, .int .i64 c.hi, .int .i64 c.most, .slice s.t.a s.t.n s.t.c, .slice s.k.a s.k.n s.k.c, .slice s.i.a s.i.n s.i.c, .slice s.r.a s.r.n s.r.c] from rfl]
  go_enter Try.func13, Try.ntmps13
  go_wp2_with fail
  refine (rightR_calls c s _ (HC.out.below (below_new _))).mono ?_
  rintro e w1 ⟨rfl, hb⟩
  rw [H1.out]
  have HX : Hid (Bx w (cdCells c s) w1) := (Bx.start w _).next hb
  clear hb
  cases r1
  · go_wp2
    go_ret2
    exact usd_ret (usd0 H1.out) (own_nil1 _ _) HX.out.low
  have c8 := HX.out.cell 8 (.slice s.i.a s.i.n s.i.c) rfl
  by_cases ha : a < 0
  · have hd : decide (a < 0) = true := by simp [ha]
    go_wp2
    go_ret2
    exact usd_ret (usd1 H1.out (.inl ha)) (own_nil1 _ _) HX.out.low
  have hd : decide (a < 0) = false := by simp; omega
  by_cases hg : (s.i.n : Int) < a
  · have hd2 : decide ((s.i.n : Int) < a) = true := by simp [hg]
    have HE : Hid (usdB c a = ([], 1)) := usd1 H1.out (.inr (by rw [HC.out.cell.length]; exact hg))
    clear hg
    go_wp2
    go_ret2
    exact usd_ret HE.out (own_nil1 _ _) HX.out.low
  have hd2 : decide ((s.i.n : Int) < a) = false := by simp; omega
  have HE : Hid (usdB c a = (usL (c.cell.take a.toNat) c.regs 16, 0)) := usd2 H1.out (by rw [HC.out.cell.length]; omega)
  obtain ⟨m, hma⟩ : ∃ m : Nat, a = m := ⟨a.toNat, by omega⟩
  rw [hma, Int.toNat_natCast, ← hma] at HE
  have HMA : Hid (a = (m : Int)) := hma
  have hmn : m ≤ s.i.n := by omega
  have hm0 : 0 ≤ a := by omega
  clear ha hg hma
  have HN3 : Hid (c.cell.length = s.i.n) := HC.out.cell.length
  have HR : Hid (Rt c) := rt_of H1.out
  obtain ⟨R, hR⟩ : ∃ R : Nat, c.regs = R := ⟨c.regs.toNat, by have := HR.out.regs; omega⟩
  have HRg : Hid (c.regs = (R : Int) ∧ R ≤ 16) := ⟨hR, by have := HR.out.regs; omega⟩
  have HB0 : Hid (Bo w w1 (cdCells c s)) := ⟨HX.out.low, HX.out.box⟩
  have hR16 : R ≤ 16 := HRg.out.2
  clear hR
  obtain ⟨i1, hi, hz0, hz1, hz2⟩ := info_parts info3
  have HF : Hid (∀ j, (usL (c.cell.take m) c.regs j).length ≤ j) := fun j => usL_len _ _ j
  go_wp2
  clear c8
  go_loopw [7, 8, 9, 10] (fun v r _ _ wr => ∃ j : Nat, j ≤ R ∧ r = .int .i64 j ∧ wr.ownsRow w.heap.size 3 1 v (usL (c.cell.take m) c.regs j).length (intVals (usL (c.cell.take m) c.regs j)) ∧ Bo w wr (cdCells c s)) (fun _ r _ _ _ => R - (intOf r).toNat)
  case atStart => exact ⟨0, Nat.zero_le _, rfl, own_nil1 _ _, HB0.out⟩
  case round =>
    obtain ⟨j, hj, rfl, hown, hbo⟩ := hrel
    clear HB0 HX
    obtain ⟨ak, cak, rfl⟩ := owned_shape hown
    have hlen := HF.out j
    have HO : Hid (wr.ownsRow w.heap.size 3 1 (.slice ak (usL (c.cell.take m) c.regs j).length cak) (usL (c.cell.take m) c.regs j).length (intVals (usL (c.cell.take m) c.regs j)) ∧ Bo w wr (cdCells c s)) := ⟨hown, hbo⟩
    have hws := hbo.low.size
    clear hown hbo
    have p2 := HO.out.2.cell 2 (v := .int .i64 c.regs) rfl
    by_cases hlt : j < R
    · have hdR : decide ((j : Int) < c.regs) = true := by have := HRg.out.1; simp; omega
      have HSc : Hid (usL (c.cell.take m) c.regs (j + 1) = usL (c.cell.take m) c.regs j ++ (if (c.cell.take m).any (hitB j) then [(j : Int)] else [])) := by
        show _ = _
        rw [usL_succ, usR_hit _ _ _ (by have := HRg.out.1; omega)]
      generalize usL (c.cell.take m) c.regs j = l at *
      generalize hn : l.length = n at *
      have HN : Hid (l.length = n) := hn
      clear hn
      obtain ⟨wo, hwo⟩ : ∃ wo, wo = wr := ⟨wr, rfl⟩
      rw [← hwo] at HO p2 hws ⊢
      clear hwo
      clear wr
      have HO2 : Hid (wo.ownsRow w.heap.size 3 1 (.slice ak n cak) n (intVals l) ∧ Bo w wo (cdCells c s)) := HO.out
      go_wp2
      clear p2
      go_loopw [7, 9, 10] (fun v i _ wr => ∃ k : Nat, k ≤ m ∧ i = .int .i64 k ∧ v = .slice ak n cak ∧ (c.cell.take k).any (hitB j) = false ∧ wr.ownsRow w.heap.size 3 1 (.slice ak n cak) n (intVals l) ∧ Bo w wr (cdCells c s)) (fun _ i _ _ => m - (intOf i).toNat)
      case atStart => exact ⟨0, Nat.zero_le _, rfl, rfl, rfl, HO2.out.1, HO2.out.2⟩
      case round =>
        obtain ⟨k, hk, rfl, rfl, hno, hown, hbo⟩ := hrel
        have HI : Hid (wr.ownsRow w.heap.size 3 1 (.slice ak n cak) n (intVals l) ∧ Bo w wr (cdCells c s)) := ⟨hown, hbo⟩
        have HNo : Hid ((c.cell.take k).any (hitB j) = false) := hno
        have hws2 := hbo.low.size
        clear hown hbo hno HO HO2 hws
        have c8 := HI.out.2.cell 8 (v := .slice s.i.a s.i.n s.i.c) rfl
        by_cases hlt2 : k < m
        · have hkl : k < c.cell.length := by rw [HN3.out]; omega
          have hdk : decide ((k : Int) < a) = true := by have := HMA.out; simp; omega
          obtain ⟨q, hq⟩ := get_lt (l := c.cell) (k := k) hkl
          obtain ⟨bb, off, hra, hcs⟩ := ((HC.out.below HI.out.2.low).cell).cells (by omega)
          obtain ⟨c1, c2, c3, c4⟩ := hcs k q hq
          have HQ : Hid (c.cell[k]? = some q) := hq
          have hkn : k < s.i.n := by omega
          clear hcs hq hkl
          obtain ⟨x, y, z, u⟩ := q
          simp only at c1 c2 c3 c4
          have HRA : Hid (s.i.a = some ⟨bb, off, none⟩) := hra
          rw [hra] at c8
          go_upto_region 14 with (fail)
          have HI1 : Hid ((wr.alloc (.cells #[.int .i64 x, .int .i64 y, .int .i64 z, .int .i64 u] 35)).ownsRow w.heap.size 3 1 (.slice ak n cak) n (intVals l) ∧ Bo w (wr.alloc (.cells #[.int .i64 x, .int .i64 y, .int .i64 z, .int .i64 u] 35)) (cdCells c s)) := ⟨HI.out.1.alloc _, HI.out.2.next (below_new _)⟩
          have HB : Hid ((wr.alloc (.cells #[.int .i64 x, .int .i64 y, .int .i64 z, .int .i64 u] 35)).heap[wr.heap.size]? = some (.cells #[.int .i64 x, .int .i64 y, .int .i64 z, .int .i64 u] 35 (0, 0))) := heap_alloc_new wr _
          clear c1 c2 c3 c4 HI hra c8
          generalize wr.alloc (.cells #[.int .i64 x, .int .i64 y, .int .i64 z, .int .i64 u] 35) = wd at *
          generalize wr.heap.size = gb at *
          have b0 := cell_block HB.out 0 (.int .i64 x) rfl
          have b1 := cell_block HB.out 1 (.int .i64 y) rfl
          have hws3 := HI1.out.2.low.size
          obtain ⟨r0, h0⟩ : ∃ r, (y == (j : Int)) = r := ⟨_, rfl⟩
          obtain ⟨r1, h1⟩ : ∃ r, (x == 1) = r := ⟨_, rfl⟩
          obtain ⟨r2, h2⟩ : ∃ r, (x == 2) = r := ⟨_, rfl⟩
          obtain ⟨r3, h3⟩ : ∃ r, (x == 3) = r := ⟨_, rfl⟩
          have HH : Hid (hitB j (x, y, z, u) = (r0 && (r1 || r2 || r3))) := by show (y == (j : Int) && (x == 1 || x == 2 || x == 3)) = _; rw [h0, h1, h2, h3]
          cases hh : (r0 && (r1 || r2 || r3))
          · have HNx : Hid ((c.cell.take (k + 1)).any (hitB j) = false) := any_step HQ.out HNo.out (by rw [HH.out, hh])
            clear HH
            cases r0
            · go_wp2
              go_roundw
              case rel => exact ⟨k + 1, by omega, by go_num, rfl, HNx.out, HI1.out.1, HI1.out.2⟩
              case measure => simp [intOf]; omega
            · cases r1
              · cases r2
                · cases r3
                  · go_wp2
                    go_roundw
                    case rel => exact ⟨k + 1, by omega, by go_num, rfl, HNx.out, HI1.out.1, HI1.out.2⟩
                    case measure => simp [intOf]; omega
                  · cases hh
                · cases hh
              · cases hh
          · have HYes : Hid ((c.cell.take m).any (hitB j) = true) := any_hit HQ.out hlt2 (by rw [HH.out, hh])
            clear HH
            cases r0
            · cases hh
            cases r1
            · cases r2
              · cases r3
                · cases hh
                go_wp2_with (at_builtin; go_loud (refine wpList_append_own _ rfl _ _ 22 rfl w.heap.size 3 i1 (.int .i64 0) 1 8 Try.underlying22 hi hz0 hz1 hz2 rfl (by decide) (.slice ak n cak) _ _ rfl (HI1.out.1.alloc _) ⟨_, 0, none⟩ 1 1 [.int .i64 j] rfl rfl ?c1 (one_int j) ?c3 ?c4 ?c5 ?_))
                case c1 =>
                  intro i u hu
                  match i, hu with
                  | 0, hu => simp at hu; subst hu; simp [Addr.add]
                case c3 => unfold maxLen; have := HRg.out.2; omega
                case c4 => have := HRg.out.2; omega
                case c5 => first | omega | (simp; omega)
                intro v' w3 hown' hgrow _
                have H3 : Hid (w3.ownsRow w.heap.size 3 1 v' (l ++ [(j : Int)]).length (intVals (l ++ [(j : Int)])) ∧ Bo w w3 (cdCells c s)) := by
                  refine ⟨?_, (HI1.out.2.next (below_new _)).own (HI1.out.1.alloc _) hgrow⟩
                  rw [intVals, List.map_append, List.length_append, HN.out]; exact hown'
                clear hown' hgrow HI1
                go_wp2
                go_roundw
                case rel => exact ⟨j + 1, by omega, by go_num, by rw [HSc.out, HYes.out]; exact H3.out.1, H3.out.2⟩
                case measure => simp [intOf]; omega
              go_wp2_with (at_builtin; go_loud (refine wpList_append_own _ rfl _ _ 22 rfl w.heap.size 3 i1 (.int .i64 0) 1 8 Try.underlying22 hi hz0 hz1 hz2 rfl (by decide) (.slice ak n cak) _ _ rfl (HI1.out.1.alloc _) ⟨_, 0, none⟩ 1 1 [.int .i64 j] rfl rfl ?c1 (one_int j) ?c3 ?c4 ?c5 ?_))
              case c1 =>
                intro i u hu
                match i, hu with
                | 0, hu => simp at hu; subst hu; simp [Addr.add]
              case c3 => unfold maxLen; have := HRg.out.2; omega
              case c4 => have := HRg.out.2; omega
              case c5 => first | omega | (simp; omega)
              intro v' w3 hown' hgrow _
              have H3 : Hid (w3.ownsRow w.heap.size 3 1 v' (l ++ [(j : Int)]).length (intVals (l ++ [(j : Int)])) ∧ Bo w w3 (cdCells c s)) := by
                refine ⟨?_, (HI1.out.2.next (below_new _)).own (HI1.out.1.alloc _) hgrow⟩
                rw [intVals, List.map_append, List.length_append, HN.out]; exact hown'
              clear hown' hgrow HI1
              go_wp2
              go_roundw
              case rel => exact ⟨j + 1, by omega, by go_num, by rw [HSc.out, HYes.out]; exact H3.out.1, H3.out.2⟩
              case measure => simp [intOf]; omega
            go_wp2_with (at_builtin; go_loud (refine wpList_append_own _ rfl _ _ 22 rfl w.heap.size 3 i1 (.int .i64 0) 1 8 Try.underlying22 hi hz0 hz1 hz2 rfl (by decide) (.slice ak n cak) _ _ rfl (HI1.out.1.alloc _) ⟨_, 0, none⟩ 1 1 [.int .i64 j] rfl rfl ?c1 (one_int j) ?c3 ?c4 ?c5 ?_))
            case c1 =>
              intro i u hu
              match i, hu with
              | 0, hu => simp at hu; subst hu; simp [Addr.add]
            case c3 => unfold maxLen; have := HRg.out.2; omega
            case c4 => have := HRg.out.2; omega
            case c5 => first | omega | (simp; omega)
            intro v' w3 hown' hgrow _
            have H3 : Hid (w3.ownsRow w.heap.size 3 1 v' (l ++ [(j : Int)]).length (intVals (l ++ [(j : Int)])) ∧ Bo w w3 (cdCells c s)) := by
              refine ⟨?_, (HI1.out.2.next (below_new _)).own (HI1.out.1.alloc _) hgrow⟩
              rw [intVals, List.map_append, List.length_append, HN.out]; exact hown'
            clear hown' hgrow HI1
            go_wp2
            go_roundw
            case rel => exact ⟨j + 1, by omega, by go_num, by rw [HSc.out, HYes.out]; exact H3.out.1, H3.out.2⟩
            case measure => simp [intOf]; omega
        · obtain rfl : k = m := by omega
          have hdk : decide ((k : Int) < a) = false := by have := HMA.out; simp; omega
          go_wp2
          go_roundw
          case rel => exact ⟨j + 1, by omega, by go_num, by rw [HSc.out, HNo.out]; simp only [Bool.false_eq_true, if_false, List.append_nil]; rw [HN.out]; exact HI.out.1, HI.out.2⟩
          case measure => simp [intOf]; omega
    · obtain rfl : j = R := by omega
      have hdR : decide ((j : Int) < c.regs) = false := by have := HRg.out.1; simp; omega
      have HE2 : Hid (usdB c a = (usL (c.cell.take m) c.regs j, 0)) := by
        show _ = _
        rw [HE.out, ← usL_more (c.cell.take m) c.regs j HRg.out.1 (16 - j), show j + (16 - j) = 16 by have := HRg.out.2; omega]
      clear hlen
      generalize (usL (c.cell.take m) c.regs j) = l at *
      go_wp2
      go_ret2
      exact usd_ret HE2.out HO.out.1 HO.out.2.low
end Go.Proofs.Ytdbfcclmmpcijaa
