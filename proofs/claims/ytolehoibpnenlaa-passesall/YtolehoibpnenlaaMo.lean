/-
  Prune: an edge, its cost. Prune: a state's edges but the one from itself. Prune: what a gap state's columns cost.
-/
import Derived.BigQuiet
import Derived.Test.YtolehoibpnenlaaMg
import Derived.Test.YtolehoibpnenlaaMv
namespace Go.Proofs.Ytolehoibpnenlaa
open Go.RowKit Go.Deep Go.Maps

/-- What is read of a work's state. -/
theorem WkAt.st {w : World} {base wb : Nat} {x : Rc} {vs : List Int} {y : Ly} (h : WkAt w base wb x vs y) {i : Nat} {s : St} (hs : x.states[i]? = some s) : ∃ tg ea en ec, y.ta = some ⟨tg, 0, none⟩ ∧ ∀ W, Below w.heap.size w W → W.cell? ⟨wb, 10, none⟩ = some (.slice (some ⟨tg, 0, none⟩) x.states.length y.tc) ∧ W.cell? ⟨tg, i * 2, none⟩ = some (.int .i64 s.1) ∧ W.cell? ⟨tg, i * 2 + 1, none⟩ = some (.slice ea en ec) ∧ PcsAt W ea en s.2 ∧ en ≤ 100 := by
  have hil := (List.getElem?_eq_some_iff.1 hs).1
  obtain ⟨tg, cap, hv, _⟩ := owned_some h.states (by omega)
  injection hv with e1
  obtain ⟨rr, hrr⟩ : ∃ rr, y.sl[i]? = some rr := ⟨y.sl[i]'(by rw [h.rows.1]; exact hil), List.getElem?_eq_getElem _⟩
  obtain ⟨kd, ea, en, ec⟩ := rr
  refine ⟨tg, ea, en, ec, e1, fun W hW => ?_⟩
  have hwk := h.below hW
  obtain ⟨k1, k2, k3, k4⟩ := hwk.rows.2 i _ s hrr hs
  simp only at k1 k2 k4
  have hst := hwk.states
  rw [e1] at hst
  have d0 := (owned_cells hst (i * 2 + 0) _ (flat_get (f := srCells) (s := 2) (fun _ => rfl) y.sl i _ 0 _ hrr rfl)).1
  have d1 := (owned_cells hst (i * 2 + 1) _ (flat_get (f := srCells) (s := 2) (fun _ => rfl) y.sl i _ 1 _ hrr rfl)).1
  rw [Nat.add_zero] at d0
  refine ⟨by rw [← e1]; exact hwk.cell 10 _ rfl, by rw [← k1]; exact d0, d1, ?_, by omega⟩
  have k5 := k4
  rw [k2] at k5
  obtain ⟨a, c, e, hp⟩ := pcs_own k5 (by unfold maxLen; omega)
  injection e with e2
  rw [e2, k2]; exact hp
theorem st_at {l : List St} {i : Nat} (h : i < l.length) : l[i]? = some (l.getD i (0, [])) := by
  rw [List.getD_eq_getElem?_getD, List.getElem?_eq_getElem h]; rfl
def edV (o : Option (Int × Int)) : Int × Int := o.getD (0, 0)
theorem find_drop {es : List (Int × Int)} {k : Nat} {e : Int × Int} (u : Int) (h : es[k]? = some e) : (es.drop k).find? (fun e => decide (e.1 = u)) = if e.1 = u then some e else (es.drop (k + 1)).find? (fun e => decide (e.1 = u)) := by
  obtain ⟨h1, h2⟩ := List.getElem?_eq_some_iff.1 h
  rw [List.drop_eq_getElem_cons h1, h2, List.find?_cons]
  by_cases hu : e.1 = u
  · rw [decide_eq_true hu, if_pos hu]
  · rw [decide_eq_false hu, if_neg hu]
set_option maxRecDepth 20000 in
set_option maxHeartbeats 2000000 in
theorem edge_calls (w : World) (base wb : Nat) (x : Rc) (vs : List Int) (y : Ly) (h : WkAt w base wb x vs y) (u : Int) (t : Nat) (ht : t < x.states.length) :
    Calls Try.prog 74 #[.pointer (some ⟨wb, 0, none⟩), .int .i64 u, .int .i64 (t : Int)] w fun e w' => e = .returned (.tuple #[.agg #[.int .i64 (edV (edgeB x.states u t)).1, .int .i64 (edV (edgeB x.states u t)).2], .bool (edgeB x.states u t).isSome]) ∧ Below w.heap.size w w' := by
  have hres : Try.f74.results = #[.cell 6 49, .tmp 7] := by kernel_rfl
  obtain ⟨s, hs⟩ : ∃ s, x.states.getD t (0, []) = s := ⟨_, rfl⟩
  have hst := st_at ht
  rw [hs] at hst
  obtain ⟨tg, ea, en, ec, hta, hrd⟩ := h.st hst
  obtain ⟨n, hn⟩ : ∃ n, x.states.length = n := ⟨_, rfl⟩
  obtain ⟨tc, htc⟩ : ∃ tc, y.tc = tc := ⟨_, rfl⟩
  rw [hn, htc] at hrd
  rw [hn] at ht
  obtain ⟨_, _, _, hpc, hen⟩ := hrd w (Below.refl _ _)
  obtain ⟨o, ho⟩ : ∃ o, edgeB x.states u t = o := ⟨_, rfl⟩
  have HO : Hid ((s.2.drop 0).find? (fun e => decide (e.1 = u)) = o ∧ s.2.length = en) := ⟨by rw [List.drop_zero, ← ho, edgeB, Int.toNat_natCast, hs], hpc.length⟩
  rw [ho]
  have HR : Hid (∀ W, Below w.heap.size w W → W.cell? ⟨wb, 10, none⟩ = some (.slice (some ⟨tg, 0, none⟩) n tc) ∧ W.cell? ⟨tg, t * 2, none⟩ = some (.int .i64 s.1) ∧ W.cell? ⟨tg, t * 2 + 1, none⟩ = some (.slice ea en ec) ∧ PcsAt W ea en s.2 ∧ en ≤ 100) := hrd
  have htd : (t : Int) < (n : Int) := by omega
  have HB0 : Hid (Below w.heap.size w (w.alloc (.cells #[.int .i64 0, .int .i64 0] 49)) ∧ (w.alloc (.cells #[.int .i64 0, .int .i64 0] 49)).heap[w.heap.size]? = some (.cells #[.int .i64 0, .int .i64 0] 49 (0, 0))) := ⟨(Below.refl _ _).alloc (Nat.le_refl _) _, heap_alloc_new w _⟩
  clear h hs hst hta hrd hn htc hpc ho
  obtain ⟨w1, hw1⟩ : ∃ w1, w1 = w.alloc (.cells #[.int .i64 0, .int .i64 0] 49) := ⟨_, rfl⟩
  rw [← hw1] at HB0
  go_enter Try.func74, Try.ntmps74
  go_upto_region 1 with (fail)
  rw [← hw1]
  clear hw1
  obtain ⟨c10, _, c1, _, _⟩ := HR.out w1 HB0.out.1
  go_wp2
  clear c10 c1
  go_loopg [9, 20] en (fun q _ kv wr => ∃ (k : Nat), k + q = en ∧ kv = .int .i64 k ∧ Hid ((s.2.drop k).find? (fun e => decide (e.1 = u)) = o ∧ Below w.heap.size w wr ∧ wr.heap[w.heap.size]? = some (.cells #[.int .i64 0, .int .i64 0] 49 (0, 0))))
  case atStart => exact ⟨0, by omega, rfl, HO.out.1, HB0.out⟩
  case round =>
    clear HB0
    obtain ⟨k, hkq, rfl, HQ⟩ := hrel
    by_cases hlt : k < en
    · obtain ⟨e, he⟩ : ∃ e, s.2[k]? = some e := ⟨s.2[k]'(by rw [HO.out.2]; exact hlt), List.getElem?_eq_getElem _⟩
      obtain ⟨_, _, _, hpc, _⟩ := HR.out wr HQ.out.2.1
      obtain ⟨g1, o1, rfl, hce⟩ := hpc.cells (by omega)
      obtain ⟨d1, d2⟩ := hce k e he
      have hfd := HQ.out.1
      rw [find_drop u he] at hfd
      have hz0 : decide ((k : Int) < (en : Int)) = true := by simp; omega
      have hzd : (k : Int) < (en : Int) := by omega
      clear hpc hce he
      by_cases heu : e.1 = u
      · rw [if_pos heu] at hfd
        have hee : (e.1 == u) = true := by simpa using heu
        have r0 : ∀ o, (wr.alloc o).cell? ⟨w.heap.size, 0, none⟩ = some (.int .i64 0) := fun o => Lib.cell?_alloc_some _ (blk HQ.out.2.2 rfl)
        have r1 : ∀ o, (wr.alloc o).cell? ⟨w.heap.size, 1, none⟩ = some (.int .i64 0) := fun o => Lib.cell?_alloc_some _ (blk HQ.out.2.2 rfl)
        have HE : Hid (o = some e ∧ Below w.heap.size w wr) := ⟨hfd.symm, HQ.out.2.1⟩
        obtain ⟨w2, hw2⟩ : ∃ w2, w2 = wr.alloc (.cells #[.int .i64 e.1, .int .i64 e.2] 49) := ⟨_, rfl⟩
        obtain ⟨eb, heb⟩ : ∃ eb, wr.heap.size = eb := ⟨_, rfl⟩
        have HW2 : Hid (w2 = wr.alloc (.cells #[.int .i64 e.1, .int .i64 e.2] 49) ∧ wr.heap.size = eb ∧ Below w.heap.size w w2 ∧ w2.heap[w.heap.size]? = some (.cells #[.int .i64 0, .int .i64 0] 49 (0, 0)) ∧ w2.heap[eb]? = some (.cells #[.int .i64 e.1, .int .i64 e.2] 49 (0, 0))) := by
          refine ⟨hw2, heb, by rw [hw2]; exact HQ.out.2.1.alloc HQ.out.2.1.size _, ?_, by rw [hw2, ← heb]; exact heap_alloc_new wr _⟩
          have hb : Below wr.heap.size wr w2 := by rw [hw2]; exact (Below.refl _ _).alloc (Nat.le_refl _) _
          rw [hb.block _ (lt_block HQ.out.2.2)]; exact HQ.out.2.2
        clear hfd heu HQ hw2 heb r0 r1
        go_upto_region 5 with (fail)
        rw [← HW2.out.1, HW2.out.2.1]
        have r0 : w2.cell? ⟨w.heap.size, 0, none⟩ = some (.int .i64 0) := blk HW2.out.2.2.2.1 rfl
        have r1 : w2.cell? ⟨w.heap.size, 1, none⟩ = some (.int .i64 0) := blk HW2.out.2.2.2.1 rfl
        have b0 : w2.cell? ⟨eb, 0, none⟩ = some (.int .i64 e.1) := blk HW2.out.2.2.2.2 rfl
        have b1 : w2.cell? ⟨eb, 1, none⟩ = some (.int .i64 e.2) := blk HW2.out.2.2.2.2 rfl
        have rf : ∀ i, w2.frozen? ⟨w.heap.size, i, none⟩ = false := fun i => frozen_of_row w2 _ i _ _ HW2.out.2.2.2.1
        clear d1 d2
        go_wp2
        refine bodyPost_ret (v := .tuple #[.agg #[.int .i64 e.1, .int .i64 e.2], .bool true]) ?_ rfl ?_
        · simp only [results, hres]
          go_simp
        · rw [HE.out.1]
          exact ⟨rfl, (HW2.out.2.2.1.setCell (Nat.le_refl _) _).setCell (Nat.le_refl _) _⟩
      · rw [if_neg heu] at hfd
        have hee : (e.1 == u) = false := by simpa using heu
        have HN : Hid ((s.2.drop (k + 1)).find? (fun e => decide (e.1 = u)) = o ∧ Below w.heap.size w (wr.alloc (.cells #[.int .i64 e.1, .int .i64 e.2] 49)) ∧ (wr.alloc (.cells #[.int .i64 e.1, .int .i64 e.2] 49)).heap[w.heap.size]? = some (.cells #[.int .i64 0, .int .i64 0] 49 (0, 0))) := by
          have hb : Below wr.heap.size wr (wr.alloc (.cells #[.int .i64 e.1, .int .i64 e.2] 49)) := (Below.refl _ _).alloc (Nat.le_refl _) _
          exact ⟨hfd, HQ.out.2.1.trans (hb.mono HQ.out.2.1.size), by rw [hb.block _ (lt_block HQ.out.2.2)]; exact HQ.out.2.2⟩
        clear hfd heu HQ
        go_wp2
        go_roundg (gk - 1)
        case measure => omega
        case rel => exact ⟨k + 1, by omega, by go_num, HN.out⟩
    · have hz0 : decide ((k : Int) < (en : Int)) = false := by simp; omega
      have r0 : wr.cell? ⟨w.heap.size, 0, none⟩ = some (.int .i64 0) := blk HQ.out.2.2 rfl
      have r1 : wr.cell? ⟨w.heap.size, 1, none⟩ = some (.int .i64 0) := blk HQ.out.2.2 rfl
      have rf : ∀ i, wr.frozen? ⟨w.heap.size, i, none⟩ = false := fun i => frozen_of_row wr _ i _ _ HQ.out.2.2
      have HE : Hid (o = none ∧ Below w.heap.size w wr) := by
        have h1 := HQ.out.1
        rw [List.drop_eq_nil_of_le (by rw [HO.out.2]; omega)] at h1
        exact ⟨h1.symm, HQ.out.2.1⟩
      clear HQ
      go_wp2
      refine bodyPost_ret (v := .tuple #[.agg #[.int .i64 0, .int .i64 0], .bool false]) ?_ rfl ?_
      · simp only [results, hres]
        go_simp
      · rw [HE.out.1]
        exact ⟨rfl, (HE.out.2.setCell (Nat.le_refl _) _).setCell (Nat.le_refl _) _⟩
theorem WkAt.num {w : World} {base wb : Nat} {x : Rc} {vs : List Int} {y : Ly} (h : WkAt w base wb x vs y) {c : Nat} (hc : c < vs.length) : ∃ ng, y.na = some ⟨ng, 0, none⟩ ∧ w.cell? ⟨ng, c, none⟩ = some (.int .i64 (vAt vs (c : Int))) := by
  obtain ⟨ng, cap, hv, _⟩ := owned_some h.nums (by omega)
  injection hv with e1
  have hn := h.nums
  rw [e1] at hn
  refine ⟨ng, e1, (owned_cells hn c _ ?_).1⟩
  rw [itRow, List.getElem?_map, List.getElem?_eq_getElem hc, vAt, Int.toNat_natCast, List.getD_eq_getElem?_getD, List.getElem?_eq_getElem hc]
  rfl
set_option maxRecDepth 20000 in
set_option maxHeartbeats 2000000 in
theorem cost_calls (w : World) (base wb : Nat) (x : Rc) (vs : List Int) (y : Ly) (h : WkAt w base wb x vs y) (a c : Int) (hc : -1 ≤ c) (hc2 : c < vs.length) :
    Calls Try.prog 76 #[.pointer (some ⟨wb, 0, none⟩), .agg #[.int .i64 a, .int .i64 c]] w fun e w' => e = .returned (.int .i64 (costN vs c)) ∧ Below w.heap.size w w' := by
  have HB : Hid (Below w.heap.size w (w.alloc (.cells #[.int .i64 a, .int .i64 c] 49))) := (Below.refl _ _).alloc (Nat.le_refl _) _
  by_cases h1 : c = -1
  · have HV : Hid (costN vs c = 0) := by simp [costN, h1, Hid]
    have hd : (c == -1) = true := by simpa using h1
    rw [HV.out]
    clear h h1 HV
    go_enter Try.func76, Try.ntmps76
    go_wp2
    go_ret
    exact ⟨rfl, HB.out⟩
  · obtain ⟨k, rfl⟩ : ∃ k : Nat, c = (k : Int) := ⟨c.toNat, by omega⟩
    have hd : ((k : Int) == -1) = false := by simp
    obtain ⟨m, hm⟩ : ∃ m, vs.length = m := ⟨_, rfl⟩
    obtain ⟨ng, hng, hcell⟩ := h.num (c := k) (by omega)
    have HV : Hid (costN vs (k : Int) = vAt vs (k : Int)) := by show _ = _; rw [costN, if_neg h1]
    obtain ⟨v, hv⟩ : ∃ v, vAt vs (k : Int) = v := ⟨_, rfl⟩
    obtain ⟨nc, hnc⟩ : ∃ nc, y.nc = nc := ⟨_, rfl⟩
    have c11 : w.cell? ⟨wb, 11, none⟩ = some (.slice (some ⟨ng, 0, none⟩) m nc) := by rw [← hng, ← hm, ← hnc]; exact h.cell 11 _ rfl
    have e11 : (w.alloc (.cells #[.int .i64 a, .int .i64 (k : Int)] 49)).cell? ⟨wb, 11, none⟩ = some (.slice (some ⟨ng, 0, none⟩) m nc) := Lib.cell?_alloc_some _ c11
    have ev : (w.alloc (.cells #[.int .i64 a, .int .i64 (k : Int)] 49)).cell? ⟨ng, k, none⟩ = some (.int .i64 v) := by rw [← hv]; exact Lib.cell?_alloc_some _ hcell
    have hkm : (k : Int) < (m : Int) := by omega
    rw [hv] at HV
    rw [HV.out]
    rw [hm] at hc2
    clear h h1 HV hv hcell c11 hng hm hnc
    go_enter Try.func76, Try.ntmps76
    go_wp2_with fail
    go_quiet (fail)
    go_wp2
    go_ret
    exact ⟨rfl, below_dn HB.out nq⟩
end Go.Proofs.Ytolehoibpnenlaa
namespace Go.Proofs.Ytolehoibpnenlaa
open Go.RowKit Go.Deep Go.Maps

def othE (es : List (Int × Int)) (t : Nat) (k : Nat) : List (Int × Int) := (es.take k).filter fun e => decide (e.1 ≠ t)
theorem othE_snoc {es : List (Int × Int)} {k : Nat} {e : Int × Int} (t : Nat) (h : es[k]? = some e) : othE es t (k + 1) = othE es t k ++ (if e.1 = t then [] else [e]) := by
  rw [othE, take_get h, List.filter_append, othE]
  by_cases he : e.1 = t <;> simp [he]
theorem othE_len (es : List (Int × Int)) (t k : Nat) : (othE es t k).length ≤ k := by
  rw [othE]
  exact Nat.le_trans (List.length_filter_le _ _) (List.length_take_le _ _)
set_option maxRecDepth 20000 in
set_option maxHeartbeats 2000000 in
theorem others_calls (w : World) (base wb : Nat) (x : Rc) (vs : List Int) (y : Ly) (h : WkAt w base wb x vs y) (t : Nat) (ht : t < x.states.length) :
    Calls Try.prog 75 #[.pointer (some ⟨wb, 0, none⟩), .int .i64 (t : Int)] w fun e w' => RowPost 49 2 (othersB x.states t).length (pcRow (othersB x.states t)) w e w' ∧ (othersB x.states t).length ≤ 100 := by
  obtain ⟨i49, hi49, hz490, hz491, hz492⟩ := info_parts info54
  obtain ⟨s, hs⟩ : ∃ s, x.states.getD t (0, []) = s := ⟨_, rfl⟩
  have hst := st_at ht
  rw [hs] at hst
  obtain ⟨tg, ea, en, ec, hta, hrd⟩ := h.st hst
  obtain ⟨n, hn⟩ : ∃ n, x.states.length = n := ⟨_, rfl⟩
  obtain ⟨tc, htc⟩ : ∃ tc, y.tc = tc := ⟨_, rfl⟩
  rw [hn, htc] at hrd
  rw [hn] at ht
  obtain ⟨c10, _, c1, hpc, hen⟩ := hrd w (Below.refl _ _)
  have HO : Hid (othersB x.states t = othE s.2 t en ∧ s.2.length = en) := ⟨by rw [othersB, hs, othE, List.take_of_length_le (by rw [hpc.length]; exact Nat.le_refl _)], hpc.length⟩
  rw [HO.out.1]
  have HR : Hid (∀ W, Below w.heap.size w W → W.cell? ⟨wb, 10, none⟩ = some (.slice (some ⟨tg, 0, none⟩) n tc) ∧ W.cell? ⟨tg, t * 2, none⟩ = some (.int .i64 s.1) ∧ W.cell? ⟨tg, t * 2 + 1, none⟩ = some (.slice ea en ec) ∧ PcsAt W ea en s.2 ∧ en ≤ 100) := hrd
  have htd : (t : Int) < (n : Int) := by omega
  clear h hs hst hta hrd hn htc hpc
  go_enter Try.func75, Try.ntmps75
  go_wp2
  clear c10 c1
  go_loopg [5, 7, 18] en (fun q lv _ kv wr => ∃ (k m : Nat) (ao : Option Addr) (cap : Nat), k + q = en ∧ kv = .int .i64 k ∧ lv = .slice ao m cap ∧ Hid (m = (othE s.2 t k).length ∧ wr.ownsRow w.heap.size 49 2 (.slice ao m cap) m (pcRow (othE s.2 t k)) ∧ Below w.heap.size w wr))
  case atStart => exact ⟨0, 0, none, 0, by omega, rfl, rfl, rfl, none_row _ _ _ _, Below.refl _ _⟩
  case round =>
    obtain ⟨k, m, ao, cap, hkq, rfl, rfl, HQ⟩ := hrel
    by_cases hlt : k < en
    · obtain ⟨e, he⟩ : ∃ e, s.2[k]? = some e := ⟨s.2[k]'(by rw [HO.out.2]; exact hlt), List.getElem?_eq_getElem _⟩
      obtain ⟨_, _, _, hpc, _⟩ := HR.out wr HQ.out.2.2
      obtain ⟨g1, o1, rfl, hce⟩ := hpc.cells (by omega)
      obtain ⟨d1, d2⟩ := hce k e he
      have hsn := othE_snoc t he
      have hm100 : m ≤ 100 := by
        have h1 := HQ.out.1
        have h2 := othE_len s.2 t k
        omega
      have hz0 : decide ((k : Int) < (en : Int)) = true := by simp; omega
      have hzd : (k : Int) < (en : Int) := by omega
      clear hpc hce he
      by_cases heu : e.1 = t
      · rw [if_pos heu, List.append_nil] at hsn
        have hee : (e.1 != (t : Int)) = false := by simpa using heu
        have HN : Hid (m = (othE s.2 t (k + 1)).length ∧ (wr.alloc (.cells #[.int .i64 e.1, .int .i64 e.2] 49)).ownsRow w.heap.size 49 2 (.slice ao m cap) m (pcRow (othE s.2 t (k + 1))) ∧ Below w.heap.size w (wr.alloc (.cells #[.int .i64 e.1, .int .i64 e.2] 49))) := by
          have hb : Below wr.heap.size wr (wr.alloc (.cells #[.int .i64 e.1, .int .i64 e.2] 49)) := (Below.refl _ _).alloc (Nat.le_refl _) _
          rw [hsn]
          exact ⟨HQ.out.1, owned_below HQ.out.2.1 hb, HQ.out.2.2.trans (hb.mono HQ.out.2.2.size)⟩
        clear hsn heu HQ
        go_wp2
        go_roundg (gk - 1)
        case measure => omega
        case rel => exact ⟨k + 1, m, ao, cap, by omega, by go_num, rfl, HN.out⟩
      · rw [if_neg heu] at hsn
        have hee : (e.1 != (t : Int)) = true := by simpa using heu
        have HS : Hid (othE s.2 t (k + 1) = othE s.2 t k ++ [e]) := hsn
        obtain ⟨w2, hw2⟩ : ∃ w2, w2 = wr.alloc (.cells #[.int .i64 e.1, .int .i64 e.2] 49) := ⟨_, rfl⟩
        obtain ⟨eb, heb⟩ : ∃ eb, wr.heap.size = eb := ⟨_, rfl⟩
        have HW2 : Hid (w2 = wr.alloc (.cells #[.int .i64 e.1, .int .i64 e.2] 49) ∧ wr.heap.size = eb ∧ Below wr.heap.size wr w2 ∧ w2.heap[eb]? = some (.cells #[.int .i64 e.1, .int .i64 e.2] 49 (0, 0))) :=
          ⟨hw2, heb, by rw [hw2]; exact (Below.refl _ _).alloc (Nat.le_refl _) _, by rw [hw2, ← heb]; exact heap_alloc_new wr _⟩
        clear hsn heu hw2 heb
        go_upto_region 6 with (fail)
        rw [← HW2.out.1, HW2.out.2.1]
        have b0 : w2.cell? ⟨eb, 0, none⟩ = some (.int .i64 e.1) := blk HW2.out.2.2.2 rfl
        have b1 : w2.cell? ⟨eb, 1, none⟩ = some (.int .i64 e.2) := blk HW2.out.2.2.2 rfl
        have HX : Hid ((w2.alloc (.cells #[.int .i64 e.1, .int .i64 e.2] 49)).ownsRow w.heap.size 49 2 (.slice ao m cap) m (pcRow (othE s.2 t k)) ∧ SrcAt (w2.alloc (.cells #[.int .i64 e.1, .int .i64 e.2] 49)) (some ⟨w2.heap.size, 0, none⟩) 1 2 (pcCells e) ∧ Below w.heap.size w (w2.alloc (.cells #[.int .i64 e.1, .int .i64 e.2] 49))) := by
          have hb : Below w2.heap.size w2 (w2.alloc (.cells #[.int .i64 e.1, .int .i64 e.2] 49)) := (Below.refl _ _).alloc (Nat.le_refl _) _
          have hb2 := HW2.out.2.2.1.trans (hb.mono HW2.out.2.2.1.size)
          exact ⟨owned_below HQ.out.2.1 hb2, pc_new w2 e, HQ.out.2.2.trans (hb2.mono HQ.out.2.2.size)⟩
        clear d1 d2
        go_wp2_with (at_builtin; refine wpList_append_opt rfl _ _ 37 rfl w.heap.size 49 i49 _ 2 16 Try.underlying37 hi49 hz490 hz491 hz492 rfl (by decide) (.slice ao m cap) m (pcRow (othE s.2 t k)) rfl HX.out.1 (some ⟨w2.heap.size, 0, none⟩) 1 1 (pcCells e) rfl HX.out.2.1 (by unfold maxLen; omega) (by omega) HX.out.2.2.size ?_)
        intro v' w6 ho6 hg6
        obtain ⟨ao6, cap6, rfl⟩ := owned_shape ho6
        have HN : Hid (m + 1 = (othE s.2 t (k + 1)).length ∧ w6.ownsRow w.heap.size 49 2 (.slice ao6 (m + 1) cap6) (m + 1) (pcRow (othE s.2 t (k + 1))) ∧ Below w.heap.size w w6) := by
          rw [HS.out]
          refine ⟨by rw [List.length_append, ← HQ.out.1]; rfl, ?_, HX.out.2.2.grown hg6 HX.out.2.2.size (fun k hk => (HX.out.1.lt k hk).1)⟩
          rw [show pcRow (othE s.2 t k ++ [e]) = pcRow (othE s.2 t k) ++ pcCells e by simp [pcRow]]
          exact ho6
        clear ho6 hg6 HX HW2 b0 b1 HQ HS
        go_wp2
        go_roundg (gk - 1)
        case measure => omega
        case rel => exact ⟨k + 1, m + 1, ao6, cap6, by omega, by go_num, rfl, HN.out⟩
    · have hz0 : decide ((k : Int) < (en : Int)) = false := by simp; omega
      have HE : Hid (m = (othE s.2 t en).length ∧ wr.ownsRow w.heap.size 49 2 (.slice ao m cap) m (pcRow (othE s.2 t en)) ∧ Below w.heap.size w wr ∧ (othE s.2 t en).length ≤ 100) := by
        have h1 := HQ.out
        rw [show k = en by omega] at h1
        exact ⟨h1.1, h1.2.1, h1.2.2, Nat.le_trans (othE_len _ _ _) hen⟩
      clear HQ
      go_wp2
      go_ret
      refine ⟨⟨ao, cap, ?_, ?_, HE.out.2.2.1⟩, HE.out.2.2.2⟩
      · rw [← HE.out.1]; rfl
      · rw [← HE.out.1]; exact HE.out.2.1
end Go.Proofs.Ytolehoibpnenlaa
namespace Go.Proofs.Ytolehoibpnenlaa
open Go.RowKit Go.Deep Go.Maps

theorem sok_costs {nd : Int} {l : List St} (h : SOk nd l) : ∀ s ∈ l, ∀ e ∈ s.2, -1 ≤ e.2 ∧ e.2 < nd ∨ e.2 = -1 := fun s hs e he => by
  have h1 := h.2 s hs
  simp only [stateB, Bool.and_eq_true] at h1
  have key : ∀ (es : List (Int × Int)) (least : Int), edgesB l.length nd least es = true → ∀ e ∈ es, -1 ≤ e.2 ∧ e.2 < nd ∨ e.2 = -1 := by
    intro es
    induction es with
    | nil => intro _ _ e he; simp at he
    | cons a r ih =>
      intro least h2 e he
      simp only [edgesB, Bool.and_eq_true, Bool.or_eq_true, decide_eq_true_eq, inI_iff] at h2
      rcases List.mem_cons.1 he with rfl | he
      · rcases h2.1.2 with q | q
        · exact .inr q
        · left; omega
      · exact ih (a.1 + 1) h2.2 e he
  exact key _ _ h1.2 e he
theorem edge_mem {l : List St} {u : Int} {t : Nat} {e : Int × Int} (h : edgeB l u t = some e) : e ∈ (l.getD t (0, [])).2 := by
  rw [edgeB, Int.toNat_natCast] at h
  exact List.mem_of_find?_eq_some h
theorem oth_mem {l : List St} {t : Nat} {e : Int × Int} (h : e ∈ othersB l t) : e ∈ (l.getD t (0, [])).2 := (List.mem_filter.1 h).1
theorem getD_mem {l : List St} {t : Nat} (h : t < l.length) : l.getD t (0, []) ∈ l := List.mem_of_getElem? (st_at h)
/-- The result's box. -/
structure Gp (w : World) (W : World) : Prop where
  low : Below w.heap.size w W
  res : W.heap[w.heap.size]? = some (.cells #[.int .i64 0, .int .i64 0] 81 (0, 0))
theorem Gp.next {w W W2 : World} (h : Gp w W) (hb : Below W.heap.size W W2) : Gp w W2 := ⟨h.low.trans (hb.mono h.low.size), by rw [hb.block _ (lt_block h.res)]; exact h.res⟩
theorem Gp.cells {w W : World} (h : Gp w W) : W.cell? ⟨w.heap.size, 0, none⟩ = some (.int .i64 0) ∧ W.cell? ⟨w.heap.size, 1, none⟩ = some (.int .i64 0) ∧ ∀ i, W.frozen? ⟨w.heap.size, i, none⟩ = false := ⟨blk h.res rfl, blk h.res rfl, fun i => frozen_of_row W _ i _ _ h.res⟩
theorem gap_none {vs : List Int} {l : List St} {t : Nat} (h : edgeB l t t = none) : gapB vs l t = none := by rw [gapB, h]
theorem gap_kind {vs : List Int} {l : List St} {t : Nat} (h : (l.getD t (0, [])).1 = 1) : gapB vs l t = none := by
  rw [gapB]
  split
  · rfl
  · rw [if_pos h]
theorem gap_few {vs : List Int} {l : List St} {t : Nat} (h : othersB l t = []) : gapB vs l t = none := by
  rw [gapB]
  split
  · rfl
  · split
    · rfl
    · rw [h]
theorem gap_is {vs : List Int} {l : List St} {t : Nat} {own o : Int × Int} {r : List (Int × Int)} (h1 : edgeB l t t = some own) (h2 : (l.getD t (0, [])).1 ≠ 1) (h3 : othersB l t = o :: r) : gapB vs l t = if (o :: r).all (fun e => decide (costN vs e.2 = costN vs o.2)) then some (costN vs o.2, costN vs own.2) else none := by
  rw [gapB, h1]
  simp only
  rw [if_neg h2, h3]
def gpV (o : Option (Int × Int)) : Int × Int := o.getD (0, 0)
set_option maxRecDepth 20000 in
set_option maxHeartbeats 4000000 in
theorem gap_calls (w : World) (base wb : Nat) (x : Rc) (vs : List Int) (y : Ly) (h : WkAt w base wb x vs y) (hok : SOk vs.length x.states) (t : Nat) (ht : t < x.states.length) :
    Calls Try.prog 58 #[.pointer (some ⟨wb, 0, none⟩), .int .i64 (t : Int)] w fun e w' => e = .returned (.tuple #[.agg #[.int .i64 (gpV (gapB vs x.states t)).1, .int .i64 (gpV (gapB vs x.states t)).2], .bool (gapB vs x.states t).isSome]) ∧ Below w.heap.size w w' := by
  have hres : Try.f58.results = #[.cell 4 81, .tmp 5] := by kernel_rfl
  obtain ⟨s, hs⟩ : ∃ s, x.states.getD t (0, []) = s := ⟨_, rfl⟩
  have hst := st_at ht
  rw [hs] at hst
  obtain ⟨tg, ea, en, ec, hta, hrd⟩ := h.st hst
  obtain ⟨n, hn⟩ : ∃ n, x.states.length = n := ⟨_, rfl⟩
  obtain ⟨tc, htc⟩ : ∃ tc, y.tc = tc := ⟨_, rfl⟩
  rw [hn, htc] at hrd
  have HR : Hid (∀ W, Below w.heap.size w W → W.cell? ⟨wb, 10, none⟩ = some (.slice (some ⟨tg, 0, none⟩) n tc) ∧ W.cell? ⟨tg, t * 2, none⟩ = some (.int .i64 s.1) ∧ W.cell? ⟨tg, t * 2 + 1, none⟩ = some (.slice ea en ec) ∧ PcsAt W ea en s.2 ∧ en ≤ 100) := hrd
  have HCo : Hid (∀ W (e : Int × Int), Below w.heap.size w W → e ∈ s.2 → Calls Try.prog 76 #[.pointer (some ⟨wb, 0, none⟩), .agg #[.int .i64 e.1, .int .i64 e.2]] W fun r w' => r = .returned (.int .i64 (costN vs e.2)) ∧ Below W.heap.size W w') := fun W e hW he => by
    have hc := sok_costs hok s (List.mem_of_getElem? hst) e he
    exact cost_calls W base wb x vs y (h.below hW) e.1 e.2 (by omega) (by omega)
  have HEd : Hid (∀ W, Below w.heap.size w W → Calls Try.prog 74 #[.pointer (some ⟨wb, 0, none⟩), .int .i64 (t : Int), .int .i64 (t : Int)] W fun e w' => e = .returned (.tuple #[.agg #[.int .i64 (edV (edgeB x.states t t)).1, .int .i64 (edV (edgeB x.states t t)).2], .bool (edgeB x.states t t).isSome]) ∧ Below W.heap.size W w') := fun W hW => edge_calls W base wb x vs y (h.below hW) t t ht
  have HOt : Hid (∀ W, Below w.heap.size w W → Calls Try.prog 75 #[.pointer (some ⟨wb, 0, none⟩), .int .i64 (t : Int)] W fun e w' => RowPost 49 2 (othersB x.states t).length (pcRow (othersB x.states t)) W e w' ∧ (othersB x.states t).length ≤ 100) := fun W hW => others_calls W base wb x vs y (h.below hW) t ht
  have HM : Hid (x.states.getD t (0, []) = s) := hs
  have htd : (t : Int) < (n : Int) := by omega
  obtain ⟨G, hG⟩ : ∃ G, gapB vs x.states t = G := ⟨_, rfl⟩
  have HG : Hid (gapB vs x.states t = G) := hG
  obtain ⟨E, hE⟩ : ∃ E, edgeB x.states t t = E := ⟨_, rfl⟩
  have HE : Hid (edgeB x.states t t = E) := hE
  obtain ⟨O, hO⟩ : ∃ O, othersB x.states t = O := ⟨_, rfl⟩
  have HO : Hid (othersB x.states t = O) := hO
  rw [hG]
  rw [hE] at HEd
  rw [hO] at HOt
  have HB0 : Hid (Gp w (w.alloc (.cells #[.int .i64 0, .int .i64 0] 81))) := ⟨(Below.refl _ _).alloc (Nat.le_refl _) _, heap_alloc_new w _⟩
  clear h hok hs hst hta hrd hn htc ht hG hE hO
  go_enter Try.func58, Try.ntmps58
  go_wp2_with fail
  refine (HEd.out _ HB0.out.low).mono ?_
  rintro e w1 ⟨rfl, hb1⟩
  have HB1 : Hid (Gp w w1) := HB0.out.next hb1
  clear hb1 HB0 HEd
  obtain ⟨w2, hw2⟩ : ∃ w2, w2 = w1.alloc (.cells #[.int .i64 (edV E).1, .int .i64 (edV E).2] 49) := ⟨_, rfl⟩
  go_upto_region 2 with (fail)
  rw [← hw2]
  obtain ⟨ow, how⟩ : ∃ ow, w1.heap.size = ow := ⟨_, rfl⟩
  rw [how]
  have HB2 : Hid (Gp w w2 ∧ w2.heap[ow]? = some (.cells #[.int .i64 (edV E).1, .int .i64 (edV E).2] 49 (0, 0))) := ⟨HB1.out.next (by rw [hw2]; exact (Below.refl _ _).alloc (Nat.le_refl _) _), by rw [hw2, ← how]; exact heap_alloc_new w1 _⟩
  clear hw2 how HB1
  obtain ⟨r0, r1, rf⟩ := HB2.out.1.cells
  cases E with
  | none =>
    have HGn : Hid (G = none) := by show _ = _; rw [← HG.out]; exact gap_none HE.out
    go_wp2
    refine bodyPost_ret (v := .tuple #[.agg #[.int .i64 0, .int .i64 0], .bool false]) ?_ rfl ?_
    · simp only [results, hres]
      go_simp
    · exact ⟨by rw [HGn.out]; rfl, (HB2.out.1.low.setCell (Nat.le_refl _) _).setCell (Nat.le_refl _) _⟩
  | some own =>
    obtain ⟨c10, ck, _, _, _⟩ := HR.out w2 HB2.out.1.low
    by_cases hk1 : s.1 = 1
    · have HGn : Hid (G = none) := by show _ = _; rw [← HG.out]; exact gap_kind (by rw [HM.out]; exact hk1)
      have hke : (s.1 == (1 : Int)) = true := by simpa using hk1
      clear hk1
      go_wp2
      refine bodyPost_ret (v := .tuple #[.agg #[.int .i64 0, .int .i64 0], .bool false]) ?_ rfl ?_
      · simp only [results, hres]
        go_simp
      · exact ⟨by rw [HGn.out]; rfl, (HB2.out.1.low.setCell (Nat.le_refl _) _).setCell (Nat.le_refl _) _⟩
    · have hke : (s.1 == (1 : Int)) = false := by simpa using hk1
      have HK1 : Hid (s.1 ≠ 1) := hk1
      clear hk1
      go_wp2_with fail
      refine (HOt.out w2 HB2.out.1.low).mono ?_
      rintro e w3 ⟨⟨oa, oc, rfl, ho3, hb3⟩, hO100⟩
      have HB3 : Hid (Gp w w3 ∧ w3.heap[ow]? = some (.cells #[.int .i64 own.1, .int .i64 own.2] 49 (0, 0)) ∧ PcsAt w3 oa O.length O) := by
        refine ⟨HB2.out.1.next hb3, by rw [hb3.block _ (lt_block HB2.out.2)]; exact HB2.out.2, ?_⟩
        obtain ⟨a, c, e, hp⟩ := pcs_own ho3 (by unfold maxLen; omega)
        injection e with e1
        rw [e1]; exact hp
      clear ho3 hb3 HB2 HOt c10 ck r0 r1 rf
      obtain ⟨r0, r1, rf⟩ := HB3.out.1.cells
      cases O with
      | nil =>
        have HGn : Hid (G = none) := by show _ = _; rw [← HG.out]; exact gap_few HO.out
        go_wp2
        refine bodyPost_ret (v := .tuple #[.agg #[.int .i64 0, .int .i64 0], .bool false]) ?_ rfl ?_
        · simp only [results, hres]
          go_simp
        · exact ⟨by rw [HGn.out]; rfl, (HB3.out.1.low.setCell (Nat.le_refl _) _).setCell (Nat.le_refl _) _⟩
      | cons o rr =>
        obtain ⟨m, hm⟩ : ∃ m, (o :: rr).length = m := ⟨_, rfl⟩
        have hm0 : ¬ m = 0 := by rw [← hm]; simp
        have hm0e : ((m : Int) == 0) = false := by simp; omega
        have hm0d : (0 : Int) < (m : Int) := by omega
        rw [hm] at HB3 hO100 ⊢
        have HMs : Hid ((o :: rr).length = m ∧ (∀ e ∈ (o :: rr), e ∈ s.2) ∧ own ∈ s.2 ∧ G = if (o :: rr).all (fun e => decide (costN vs e.2 = costN vs o.2)) then some (costN vs o.2, costN vs own.2) else none) := by
          refine ⟨hm, fun e he => ?_, ?_, ?_⟩
          · rw [← HO.out] at he
            have := oth_mem he
            rwa [HM.out] at this
          · have := edge_mem HE.out
            rwa [HM.out] at this
          · rw [← HG.out]
            exact gap_is HE.out (by rw [HM.out]; exact HK1.out) HO.out
        obtain ⟨g1, o1, rfl, hce⟩ := HB3.out.2.2.cells (by omega)
        obtain ⟨d1, d2⟩ := hce 0 o rfl
        rw [Nat.zero_mul, Nat.add_zero] at d1 d2
        clear hm hce
        go_wp2_with fail
        refine (HCo.out w3 o HB3.out.1.low (HMs.out.2.1 o (by simp))).mono ?_
        rintro e w4 ⟨rfl, hb4⟩
        have HB4 : Hid (Gp w w4 ∧ w4.heap[ow]? = some (.cells #[.int .i64 own.1, .int .i64 own.2] 49 (0, 0)) ∧ PcsAt w4 (some ⟨g1, o1, none⟩) m (o :: rr)) := ⟨HB3.out.1.next hb4, by rw [hb4.block _ (lt_block HB3.out.2.1)]; exact HB3.out.2.1, HB3.out.2.2.below hb4⟩
        clear hb4 HB3 d1 d2 r0 r1 rf
        obtain ⟨op, hop⟩ : ∃ op, costN vs o.2 = op := ⟨_, rfl⟩
        rw [hop] at HMs ⊢
        clear hop
        go_wp2
        go_loopg [11, 48] m (fun q _ kv wr => ∃ (k : Nat), k + q = m ∧ kv = .int .i64 k ∧ Hid (((o :: rr).take k).all (fun e => decide (costN vs e.2 = op)) = true ∧ Gp w wr ∧ wr.heap[ow]? = some (.cells #[.int .i64 own.1, .int .i64 own.2] 49 (0, 0)) ∧ PcsAt wr (some ⟨g1, o1, none⟩) m (o :: rr)))
        case atStart => exact ⟨0, by omega, rfl, rfl, HB4.out⟩
        case round =>
          clear HB4
          obtain ⟨k, hkq, rfl, HQ⟩ := hrel
          obtain ⟨r0, r1, rf⟩ := HQ.out.2.1.cells
          by_cases hlt : k < m
          · obtain ⟨e, he⟩ : ∃ e, (o :: rr)[k]? = some e := ⟨(o :: rr)[k]'(by rw [HMs.out.1]; exact hlt), List.getElem?_eq_getElem _⟩
            obtain ⟨g2, o2, hgo, hce⟩ := HQ.out.2.2.2.cells (by omega)
            injection hgo with hgo
            injection hgo with e1 e2
            subst e1
            subst e2
            obtain ⟨d1, d2⟩ := hce k e he
            have hz0 : decide ((k : Int) < (m : Int)) = true := by simp; omega
            have hzd : (k : Int) < (m : Int) := by omega
            have htk : (o :: rr).take (k + 1) = (o :: rr).take k ++ [e] := take_get he
            have hmem : e ∈ s.2 := HMs.out.2.1 e (List.mem_of_getElem? he)
            have HK : Hid (((o :: rr).take (k + 1)) = (o :: rr).take k ++ [e] ∧ e ∈ (o :: rr)) := ⟨htk, List.mem_of_getElem? he⟩
            have HC : Hid (Calls Try.prog 76 #[.pointer (some ⟨wb, 0, none⟩), .agg #[.int .i64 e.1, .int .i64 e.2]] (wr.alloc (.cells #[.int .i64 e.1, .int .i64 e.2] 49)) fun r w' => r = .returned (.int .i64 (costN vs e.2)) ∧ Below (wr.alloc (.cells #[.int .i64 e.1, .int .i64 e.2] 49)).heap.size (wr.alloc (.cells #[.int .i64 e.1, .int .i64 e.2] 49)) w') :=
              HCo.out _ e (HQ.out.2.1.low.alloc HQ.out.2.1.low.size _) hmem
            clear hce he htk hmem
            go_wp2_with fail
            refine HC.out.mono ?_
            rintro e' w5 ⟨rfl, hb5⟩
            have HB5 : Hid (Gp w w5 ∧ w5.heap[ow]? = some (.cells #[.int .i64 own.1, .int .i64 own.2] 49 (0, 0)) ∧ PcsAt w5 (some ⟨g1, o1, none⟩) m (o :: rr)) := by
              have hb0 : Below wr.heap.size wr (wr.alloc (.cells #[.int .i64 e.1, .int .i64 e.2] 49)) := (Below.refl _ _).alloc (Nat.le_refl _) _
              have hb := hb0.trans (hb5.mono hb0.size)
              exact ⟨HQ.out.2.1.next hb, by rw [hb.block _ (lt_block HQ.out.2.2.1)]; exact HQ.out.2.2.1, HQ.out.2.2.2.below hb⟩
            clear hb5 HC d1 d2 r0 r1 rf
            obtain ⟨r0, r1, rf⟩ := HB5.out.1.cells
            by_cases hce : costN vs e.2 = op
            · have hcn : (costN vs e.2 != op) = false := by simpa using hce
              have HN : Hid (((o :: rr).take (k + 1)).all (fun e => decide (costN vs e.2 = op)) = true) := by
                show _ = _
                rw [HK.out.1, List.all_append, HQ.out.1]
                simp [hce]
              clear hce HQ HK
              go_wp2
              go_roundg (gk - 1)
              case measure => omega
              case rel => exact ⟨k + 1, by omega, by go_num, HN.out, HB5.out⟩
            · have hcn : (costN vs e.2 != op) = true := by simpa using hce
              have HGn : Hid (G = none) := by
                show _ = _
                rw [HMs.out.2.2.2, if_neg]
                intro hall
                rw [List.all_eq_true] at hall
                have := hall e HK.out.2
                simp [hce] at this
              clear hce HQ HK
              go_wp2
              refine bodyPost_ret (v := .tuple #[.agg #[.int .i64 0, .int .i64 0], .bool false]) ?_ rfl ?_
              · simp only [results, hres]
                go_simp
              · exact ⟨by rw [HGn.out]; rfl, (HB5.out.1.low.setCell (Nat.le_refl _) _).setCell (Nat.le_refl _) _⟩
          · have hz0 : decide ((k : Int) < (m : Int)) = false := by simp; omega
            have HGn : Hid (G = some (op, costN vs own.2)) := by
              show _ = _
              have h1 := HQ.out.1
              rw [List.take_of_length_le (by rw [HMs.out.1]; omega)] at h1
              rw [HMs.out.2.2.2, if_pos h1]
            have b0 : wr.cell? ⟨ow, 0, none⟩ = some (.int .i64 own.1) := blk HQ.out.2.2.1 rfl
            have b1 : wr.cell? ⟨ow, 1, none⟩ = some (.int .i64 own.2) := blk HQ.out.2.2.1 rfl
            go_wp2_with fail
            refine (HCo.out wr own HQ.out.2.1.low HMs.out.2.2.1).mono ?_
            rintro e' w6 ⟨rfl, hb6⟩
            have HB6 : Hid (Gp w w6) := HQ.out.2.1.next hb6
            clear hb6 HQ b0 b1 r0 r1 rf
            obtain ⟨r0, r1, rf⟩ := HB6.out.cells
            go_wp2
            refine bodyPost_ret (v := .tuple #[.agg #[.int .i64 op, .int .i64 (costN vs own.2)], .bool true]) ?_ rfl ?_
            · simp only [results, hres]
              go_simp
            · exact ⟨by rw [HGn.out]; rfl, (HB6.out.low.setCell (Nat.le_refl _) _).setCell (Nat.le_refl _) _⟩
end Go.Proofs.Ytolehoibpnenlaa
