/-
  The document's Values. A scheme of Check for Numbers; what the two sources of the chapter say.
-/
import Derived.Deep.RegionHeld3
import Derived.Deep.LoopGhost
import Derived.ArgAppend
import Derived.Test.YtolehoibpnenlabProg
import Derived.BigQuiet
import Derived.Deep.QuietTactic
import Derived.Recover
import Derived.Deep.RegionLaw
import Derived.BigRegion
import Derived.Lib.Bytealg
import GoSem.Claim
import Derived.WalkKit
import Derived.WalkSmall
import Derived.Deep.RegionWith
import Derived.Laws.CopyOwn
import Derived.Lib.IndexLaws
import Derived.Test.YtolehoibpnenlabMa
import Derived.Test.YtolehoibpnenlabMb
import Derived.Test.YtolehoibpnenlabCkN
import Derived.Test.YtolehoibpnenlabMc
import Derived.Test.YtolehoibpnenlabVmD
namespace Go.Proofs.Ytolehoibpnenlab
open Go.RowKit Go.Deep Go.Maps
theorem defB_two {op num a b : Int} {n : Nat} (vs : List Int) (h : defB ⟨op, num, a, b⟩ n = true) (h1 : op ≠ 1) : 2 ≤ op ∧ op ≤ 7 ∧ num = 0 ∧ (∃ i : Nat, a = i ∧ i < n) ∧ (∃ j : Nat, b = j ∧ j < n) ∧ rawB vs ⟨op, num, a, b⟩ = madeR op (vAt vs a) (vAt vs b) := by
  have hr : 2 ≤ op → op ≤ 7 → rawB vs ⟨op, num, a, b⟩ = madeR op (vAt vs a) (vAt vs b) := by
    intro h2 h7
    have : op = 2 ∨ op = 3 ∨ op = 4 ∨ op = 5 ∨ op = 6 ∨ op = 7 := by omega
    rcases this with rfl | rfl | rfl | rfl | rfl | rfl <;> rfl
  have nt : ∀ x : Int, 0 ≤ x → x < n → ∃ i : Nat, x = i ∧ i < n := fun x h0 hn => ⟨x.toNat, by omega, by omega⟩
  unfold defB at h
  simp only at h
  rw [if_neg h1] at h
  split at h
  · simp only [Bool.and_eq_true, aheadB, decide_eq_true_eq] at h
    exact ⟨by omega, by omega, h.1, nt _ h.2.1.1 h.2.1.2, nt _ (by omega) (by omega), hr (by omega) (by omega)⟩
  · split at h
    · simp only [Bool.and_eq_true, aheadB, decide_eq_true_eq] at h
      exact ⟨by omega, by omega, h.1, nt _ h.2.1.1 h.2.1.2, nt _ h.2.2.1 h.2.2.2, hr (by omega) (by omega)⟩
    · cases h
set_option maxRecDepth 20000 in
set_option maxHeartbeats 1000000 in
theorem refvalues_calls (l : List Df) (ao : Option Addr) (n cc : Nat) (w : World) (h : DfsAt w ao n l) :
    Calls Try.prog 10 #[.slice ao n cc] w fun e w' => ValPost (valsB l) w e w' := by
  have hns := h.short
  unfold maxLen at hns
  have hlen := h.length
  by_cases hbig : 5004 < n
  · have HX : Hid (valsB l = ([], 2)) := by show valsB l = _; unfold valsB; rw [if_pos (by omega)]
    clear h hlen
    go_enter Try.func10, Try.ntmps10
    go_wp2
    go_ret2
    show ValPost _ _ _ _
    rw [HX.out]
    exact ⟨none, 0, rfl, none_row _ _ _ _, Below.refl _ _⟩
  · have hd : decide ((5004 : Int) < (n : Int)) = false := by simp; omega
    obtain ⟨R, hR⟩ : ∃ R, valF l [] = R := ⟨_, rfl⟩
    have HX : Hid (valsB l = valE R) := by show valsB l = _; rw [valsB_eq (by omega), hR]
    have HR : Hid (valF (l.drop 0) [] = R) := by rw [List.drop_zero]; exact hR
    have HD : Hid (DfsAt w ao n l) := h
    clear hR h hlen
    obtain ⟨i0, hi, hz0, hz1, hz2⟩ := info_parts info3
    go_enter Try.func10, Try.ntmps10
    go_wp2_with fail
    go_loopg [5, 4] n (fun k iv kv wr => ∃ (vs : List Int) (vo : Option Addr) (vc i : Nat), iv = .int .i64 (i : Int) ∧ kv = .slice vo i vc ∧ i + k = n ∧ Hid (valF (l.drop i) vs = R ∧ vs.length = i ∧ (∀ v ∈ vs, -144115188075855872 ≤ v ∧ v ≤ 144115188075855872) ∧ wr.ownsRow w.heap.size 3 1 (.slice vo i vc) i (itRow vs) ∧ Below w.heap.size w wr))
    case atStart => exact ⟨[], none, 0, 0, rfl, rfl, by omega, HR.out, rfl, fun v hv => by simp at hv, none_row _ _ _ _, Below.refl _ _⟩
    case round =>
      clear HR
      obtain ⟨vs, vo, vc, i, rfl, rfl, hik, HT⟩ := hrel
      by_cases hin : i < n
      · obtain ⟨d, hdi⟩ : ∃ d, l[i]? = some d := ⟨l[i]'(by rw [HD.out.length]; exact hin), List.getElem?_eq_getElem _⟩
        obtain ⟨g, off, hao, hcs⟩ := HD.out.cells (by omega)
        subst hao
        obtain ⟨b0, b1, b2, b3⟩ := hcs i d hdi
        obtain ⟨t1, t2, t3, t4, t5⟩ := HT.out
        rw [dropD hdi] at t1
        have HDr : Hid (l.drop i = d :: l.drop (i + 1)) := dropD hdi
        have hC1 := mayDef_calls d (i : Int) (wr.alloc (.cells #[.int .i64 d.op, .int .i64 d.num, .int .i64 d.a, .int .i64 d.b] 34))
        unfold dfV at hC1
        obtain ⟨op, num, a, b⟩ := d
        simp only at hC1 b0 b1 b2 b3
        have x0 : wr.cell? ⟨g, off + i * 4, none⟩ = some (.int .i64 op) := by rw [t5.cell (World.block_lt_of_cell? w _ b0)]; exact b0
        have x1 : wr.cell? ⟨g, off + i * 4 + 1, none⟩ = some (.int .i64 num) := by rw [t5.cell (World.block_lt_of_cell? w _ b1)]; exact b1
        have x2 : wr.cell? ⟨g, off + i * 4 + 2, none⟩ = some (.int .i64 a) := by rw [t5.cell (World.block_lt_of_cell? w _ b2)]; exact b2
        have x3 : wr.cell? ⟨g, off + i * 4 + 3, none⟩ = some (.int .i64 b) := by rw [t5.cell (World.block_lt_of_cell? w _ b3)]; exact b3
        clear hcs b0 b1 b2 b3 hdi
        cases hdb : defB ⟨op, num, a, b⟩ i with
        | false =>
          have HY : Hid (R = .error 1) := by rw [← t1]; exact valF_bad (by rw [t2]; exact hdb)
          rw [hdb] at hC1
          have HC1 : Hid (Calls Try.prog 14 #[.agg #[.int .i64 op, .int .i64 num, .int .i64 a, .int .i64 b], .int .i64 (i : Int)] (wr.alloc (.cells #[.int .i64 op, .int .i64 num, .int .i64 a, .int .i64 b] 34)) fun e w' => e = .returned (.bool false) ∧ Below (wr.alloc (.cells #[.int .i64 op, .int .i64 num, .int .i64 a, .int .i64 b] 34)).heap.size (wr.alloc (.cells #[.int .i64 op, .int .i64 num, .int .i64 a, .int .i64 b] 34)) w') := hC1
          have HB : Hid (Below w.heap.size w wr) := t5
          clear hC1 hdb t1 t2 t3 t4 t5 HT
          go_wp2_with fail
          refine (HC1.out).mono ?_
          rintro e w3 ⟨rfl, hb3⟩
          have HB3 : Hid (Below w.heap.size w w3) := HB.out.trans ((below_box' hb3).mono HB.out.size)
          clear hb3
          go_wp2
          go_ret2
          show ValPost _ _ _ _
          rw [HX.out, HY.out]
          exact ⟨none, 0, rfl, none_row _ _ _ _, HB3.out⟩
        | true =>
          rw [hdb] at hC1
          have HC1 : Hid (Calls Try.prog 14 #[.agg #[.int .i64 op, .int .i64 num, .int .i64 a, .int .i64 b], .int .i64 (i : Int)] (wr.alloc (.cells #[.int .i64 op, .int .i64 num, .int .i64 a, .int .i64 b] 34)) fun e w' => e = .returned (.bool true) ∧ Below (wr.alloc (.cells #[.int .i64 op, .int .i64 num, .int .i64 a, .int .i64 b] 34)).heap.size (wr.alloc (.cells #[.int .i64 op, .int .i64 num, .int .i64 a, .int .i64 b] 34)) w') := hC1
          have HDB : Hid (defB ⟨op, num, a, b⟩ vs.length = true) := by rw [t2]; exact hdb
          clear hC1 hdb t1 t2 t3 t4 t5
          go_wp2_with fail
          refine (HC1.out).mono ?_
          rintro e w3 ⟨rfl, hb3⟩
          have hB3 := below_box' hb3
          have y0 : w3.cell? ⟨wr.heap.size, 0, none⟩ = some (.int .i64 op) := by rw [hb3.cell (by simp)]; exact blk (heap_alloc_new wr _) rfl
          have y1 : w3.cell? ⟨wr.heap.size, 1, none⟩ = some (.int .i64 num) := by rw [hb3.cell (by simp)]; exact blk (heap_alloc_new wr _) rfl
          have y2 : w3.cell? ⟨wr.heap.size, 2, none⟩ = some (.int .i64 a) := by rw [hb3.cell (by simp)]; exact blk (heap_alloc_new wr _) rfl
          have y3 : w3.cell? ⟨wr.heap.size, 3, none⟩ = some (.int .i64 b) := by rw [hb3.cell (by simp)]; exact blk (heap_alloc_new wr _) rfl
          have HT3 : Hid (valF (⟨op, num, a, b⟩ :: l.drop (i + 1)) vs = R ∧ vs.length = i ∧ (∀ v ∈ vs, -144115188075855872 ≤ v ∧ v ≤ 144115188075855872) ∧ w3.ownsRow w.heap.size 3 1 (.slice vo i vc) i (itRow vs) ∧ Below w.heap.size w w3) := by
            obtain ⟨t1, t2, t3, t4, t5⟩ := HT.out
            rw [HDr.out] at t1
            exact ⟨t1, t2, t3, owned_below t4 hB3, t5.trans (hB3.mono t5.size)⟩
          clear hb3 hB3 HT HC1 x0 x1 x2 x3 HDr
          by_cases h1 : op = 1
          · subst h1
            have e1 : ((1 : Int) == 1) = true := rfl
            cases hm : inB maxV (rawB vs ⟨1, num, a, b⟩) with
            | false =>
              have HY : Hid (R = .error 93) := by rw [← HT3.out.1]; exact valF_far HDB.out hm
              have HB4 : Hid (Below w.heap.size w w3) := HT3.out.2.2.2.2
              have hm2 : ¬ (-144115188075855872 ≤ num ∧ num ≤ 144115188075855872) := by
                intro h
                have : inB maxV num = true := (inB_iff _ _).2 h
                rw [show rawB vs ⟨1, num, a, b⟩ = num from rfl] at hm
                rw [hm] at this
                cases this
              clear hm HT3
              by_cases k1 : -144115188075855872 ≤ num
              · have d1 : decide (-144115188075855872 ≤ num) = true := by simpa using k1
                have d2 : decide (num ≤ 144115188075855872) = false := by simp; omega
                go_wp2
                go_ret2
                show ValPost _ _ _ _
                rw [HX.out, HY.out]
                exact ⟨none, 0, rfl, none_row _ _ _ _, HB4.out⟩
              · have d1 : decide (-144115188075855872 ≤ num) = false := by simpa using k1
                go_wp2
                go_ret2
                show ValPost _ _ _ _
                rw [HX.out, HY.out]
                exact ⟨none, 0, rfl, none_row _ _ _ _, HB4.out⟩
            | true =>
              have HT4 : Hid (valF (l.drop (i + 1)) (vs ++ [(rawB vs ⟨1, num, a, b⟩)]) = R ∧ vs.length = i ∧ (∀ v ∈ vs ++ [(rawB vs ⟨1, num, a, b⟩)], -144115188075855872 ≤ v ∧ v ≤ 144115188075855872) ∧ (w3.alloc (.cells #[.int .i64 (rawB vs ⟨1, num, a, b⟩)] 3)).ownsRow w.heap.size 3 1 (.slice vo i vc) i (itRow vs) ∧ Below w.heap.size w (w3.alloc (.cells #[.int .i64 (rawB vs ⟨1, num, a, b⟩)] 3))) := by
                obtain ⟨t1, t2, t3, t4, t5⟩ := HT3.out
                have hb5 : Below w3.heap.size w3 (w3.alloc (.cells #[.int .i64 (rawB vs ⟨1, num, a, b⟩)] 3)) := (Below.refl w3.heap.size w3).alloc (Below.refl w3.heap.size w3).size _
                refine ⟨by rw [← t1]; exact (valF_ok HDB.out hm).symm, t2, fun u hu => ?_, owned_below t4 hb5, t5.trans (hb5.mono t5.size)⟩
                rcases List.mem_append.1 hu with h1 | h1
                · exact t3 u h1
                · rw [List.mem_singleton.1 h1]; exact (inB_iff _ _).1 hm
              rw [show rawB vs ⟨1, num, a, b⟩ = num from rfl] at HT4 hm
              have hr := (inB_iff _ _).1 hm
              unfold maxV at hr
              have d1 : decide (-144115188075855872 ≤ num) = true := by simpa using hr.1
              have d2 : decide (num ≤ 144115188075855872) = true := by simpa using hr.2
              clear hm HT3 HDB
              generalize num = r at *
              generalize w3 = w4 at *
              go_wp2_with (at_builtin; refine wpList_append_own _ rfl _ _ 23 rfl w.heap.size 3 i0 _ 1 8 Try.underlying23 hi hz0 hz1 hz2 rfl (by decide) (.slice vo i vc) i (itRow vs) rfl HT4.out.2.2.2.1 ⟨w4.heap.size, 0, none⟩ 1 1 [.int .i64 r] rfl rfl (it_new w4 r) (it_one r) (by unfold maxLen; omega) (by omega) HT4.out.2.2.2.2.size ?_)
              intro v' w5 ho hg _
              obtain ⟨vo5, vc5, rfl⟩ := owned_shape ho
              have HN : Hid (w5.ownsRow w.heap.size 3 1 (.slice vo5 (i + 1) vc5) (i + 1) (itRow (vs ++ [r])) ∧ Below w.heap.size w w5) := by
                refine ⟨by rw [itRow_snoc]; exact ho, HT4.out.2.2.2.2.grown hg HT4.out.2.2.2.2.size (fun k hk => ?_)⟩
                rcases HT4.out.2.2.2.1.2 with ⟨e, _⟩ | ⟨q, cap, cur, e, hq, _⟩
                · cases e <;> cases hk
                · cases e; cases hk; exact hq
              clear ho hg
              go_wp2_with fail
              go_roundg (gk - 1)
              case measure => omega
              case rel => exact ⟨vs ++ [r], vo5, vc5, i + 1, by go_num, rfl, by omega, HT4.out.1, by rw [List.length_append, HT4.out.2.1]; rfl, HT4.out.2.2.1, HN.out.1, HN.out.2⟩
          · have e1 : (op == 1) = false := by simpa using h1
            obtain ⟨h2, h7, rfl, ⟨ia, rfl, lia⟩, ⟨jb, rfl, ljb⟩, hraw⟩ := defB_two vs HDB.out h1
            have hsi : IsI w3 vo vs := own_isI' HT3.out.2.2.2.1 HT3.out.2.1
            obtain ⟨g2, o2, hvo, ca⟩ := hsi ia _ (vAt_get lia)
            subst hvo
            obtain ⟨_, _, e3, cb⟩ := hsi jb _ (vAt_get ljb)
            cases e3
            have ra := HT3.out.2.2.1 _ (vAt_in lia)
            have rb := HT3.out.2.2.1 _ (vAt_in ljb)
            have la : ia < i := by rw [← HT3.out.2.1]; exact lia
            have lb : jb < i := by rw [← HT3.out.2.1]; exact ljb
            clear hsi lia ljb h1
            have HW : Hid (∀ w, Calls Try.prog 15 #[.int .i64 op, .int .i64 (vAt vs (ia : Int)), .int .i64 (vAt vs (jb : Int)), .int .i64 144115188075855872] w fun e w' => e = .returned (.tuple #[.int .i64 (madeV op (vAt vs (ia : Int)) (vAt vs (jb : Int))), .bool (inB maxV (madeR op (vAt vs (ia : Int)) (vAt vs (jb : Int))))]) ∧ w' = w) := fun w => made_calls op _ _ w h2 h7 ra.1 ra.2 rb.1 rb.2
            have HV : Hid (inB maxV (madeR op (vAt vs (ia : Int)) (vAt vs (jb : Int))) = true → madeV op (vAt vs (ia : Int)) (vAt vs (jb : Int)) = madeR op (vAt vs (ia : Int)) (vAt vs (jb : Int))) := madeV_in
            rw [← hraw] at HW HV
            clear hraw ra rb h2 h7
            generalize madeV op (vAt vs (ia : Int)) (vAt vs (jb : Int)) = v at *
            generalize vAt vs (ia : Int) = xa at *
            generalize vAt vs (jb : Int) = xb at *
            cases hm : inB maxV (rawB vs ⟨op, 0, (ia : Int), (jb : Int)⟩) with
            | false =>
              rw [hm] at HW
              have HY : Hid (R = .error 93) := by rw [← HT3.out.1]; exact valF_far HDB.out hm
              have HB4 : Hid (Below w.heap.size w w3) := HT3.out.2.2.2.2
              clear hm HT3 HV HDB
              go_wp2_with fail
              go_quiet ((go_at_call 15; exact Calls.quiet_of_same (HW.out _)))
              go_wp2
              go_ret2
              show ValPost _ _ _ _
              rw [HX.out, HY.out]
              exact ⟨none, 0, rfl, none_row _ _ _ _, below_dn HB4.out nq⟩
            | true =>
              rw [hm] at HW HV
              have hv := HV.out rfl
              subst hv
              have HMm : Hid (inB maxV (rawB vs ⟨op, 0, (ia : Int), (jb : Int)⟩) = true) := hm
              obtain ⟨r, hr⟩ : ∃ r, rawB vs ⟨op, 0, (ia : Int), (jb : Int)⟩ = r := ⟨_, rfl⟩
              have HRr : Hid (rawB vs ⟨op, 0, (ia : Int), (jb : Int)⟩ = r) := hr
              rw [hr] at HW
              clear hm HV hr
              go_wp2_with fail
              go_quiet ((go_at_call 15; exact Calls.quiet_of_same (HW.out _)))
              have hm := HMm.out
              have HT4 : Hid (valF (l.drop (i + 1)) (vs ++ [(rawB vs ⟨op, 0, (ia : Int), (jb : Int)⟩)]) = R ∧ vs.length = i ∧ (∀ v ∈ vs ++ [(rawB vs ⟨op, 0, (ia : Int), (jb : Int)⟩)], -144115188075855872 ≤ v ∧ v ≤ 144115188075855872) ∧ ((w3.drewN nq).alloc (.cells #[.int .i64 (rawB vs ⟨op, 0, (ia : Int), (jb : Int)⟩)] 3)).ownsRow w.heap.size 3 1 (.slice (some ⟨g2, o2, none⟩) i vc) i (itRow vs) ∧ Below w.heap.size w ((w3.drewN nq).alloc (.cells #[.int .i64 (rawB vs ⟨op, 0, (ia : Int), (jb : Int)⟩)] 3))) := by
                obtain ⟨t1, t2, t3, t4, t5⟩ := HT3.out
                have hb5 : Below w3.heap.size w3 ((w3.drewN nq).alloc (.cells #[.int .i64 (rawB vs ⟨op, 0, (ia : Int), (jb : Int)⟩)] 3)) := (below_dn (Below.refl w3.heap.size w3) nq).alloc (below_dn (Below.refl w3.heap.size w3) nq).size _
                refine ⟨by rw [← t1]; exact (valF_ok HDB.out hm).symm, t2, fun u hu => ?_, owned_below t4 hb5, t5.trans (hb5.mono t5.size)⟩
                rcases List.mem_append.1 hu with h1 | h1
                · exact t3 u h1
                · rw [List.mem_singleton.1 h1]; exact (inB_iff _ _).1 hm
              rw [HRr.out] at HT4
              clear hm HT3 HDB HW y0 y1 y2 y3 ca cb HMm HRr
              generalize (w3.drewN nq) = w4 at *
              go_wp2_with (at_builtin; refine wpList_append_own _ rfl _ _ 23 rfl w.heap.size 3 i0 _ 1 8 Try.underlying23 hi hz0 hz1 hz2 rfl (by decide) (.slice (some ⟨g2, o2, none⟩) i vc) i (itRow vs) rfl HT4.out.2.2.2.1 ⟨w4.heap.size, 0, none⟩ 1 1 [.int .i64 r] rfl rfl (it_new w4 r) (it_one r) (by unfold maxLen; omega) (by omega) HT4.out.2.2.2.2.size ?_)
              intro v' w5 ho hg _
              obtain ⟨vo5, vc5, rfl⟩ := owned_shape ho
              have HN : Hid (w5.ownsRow w.heap.size 3 1 (.slice vo5 (i + 1) vc5) (i + 1) (itRow (vs ++ [r])) ∧ Below w.heap.size w w5) := by
                refine ⟨by rw [itRow_snoc]; exact ho, HT4.out.2.2.2.2.grown hg HT4.out.2.2.2.2.size (fun k hk => ?_)⟩
                rcases HT4.out.2.2.2.1.2 with ⟨e, _⟩ | ⟨q, cap, cur, e, hq, _⟩
                · cases e <;> cases hk
                · cases e; cases hk; exact hq
              clear ho hg
              go_wp2_with fail
              go_roundg (gk - 1)
              case measure => omega
              case rel => exact ⟨vs ++ [r], vo5, vc5, i + 1, by go_num, rfl, by omega, HT4.out.1, by rw [List.length_append, HT4.out.2.1]; rfl, HT4.out.2.2.1, HN.out.1, HN.out.2⟩
      · have hin2 : i = n := by omega
        subst hin2
        have HY : Hid (R = .ok vs ∧ vs.length = i ∧ wr.ownsRow w.heap.size 3 1 (.slice vo i vc) i (itRow vs) ∧ Below w.heap.size w wr) := by
          obtain ⟨t1, t2, t3, t4, t5⟩ := HT.out
          rw [List.drop_eq_nil_of_le (by rw [HD.out.length]; omega)] at t1
          exact ⟨t1.symm, t2, t4, t5⟩
        clear HT
        go_wp2
        go_ret2
        show ValPost _ _ _ _
        rw [HX.out, HY.out.1]
        have e : vs.length = i := HY.out.2.1
        exact ⟨vo, vc, by show _ = Ending.returned (.tuple #[.slice vo vs.length vc, .int .i64 0]); rw [e]; rfl, by show wr.ownsRow _ _ _ (.slice vo vs.length vc) vs.length _; rw [e]; exact HY.out.2.2.1, HY.out.2.2.2⟩
end Go.Proofs.Ytolehoibpnenlab
namespace Go.Proofs.Ytolehoibpnenlab
open Go.RowKit Go.Deep Go.Maps
theorem pcs_own {w : World} {v : Value} {e : TypeId} {base : Nat} {l : List (Int × Int)} (h : w.ownsRow base e 2 v l.length (pcRow l)) (hs : l.length ≤ maxLen) : ∃ ao cap, v = .slice ao l.length cap ∧ PcsAt w ao l.length l := by
  obtain ⟨ao, cap, rfl⟩ := owned_shape h
  refine ⟨ao, cap, rfl, rfl, hs, fun h0 => ?_⟩
  obtain ⟨g, cap', e, _⟩ := owned_some h h0
  cases e
  refine ⟨g, 0, rfl, fun i d hi => ?_⟩
  have c : ∀ (j : Nat) (u : Value), (pcCells d)[j]? = some u → w.cell? ⟨g, 0 + (i * 2 + j), none⟩ = some u := fun j u hu => by
    rw [Nat.zero_add]
    exact (owned_cells h _ _ (flat_get (s := 2) (fun _ => rfl) l i d j u hi hu)).1
  exact ⟨c 0 _ rfl, c 1 _ rfl⟩
end Go.Proofs.Ytolehoibpnenlab
