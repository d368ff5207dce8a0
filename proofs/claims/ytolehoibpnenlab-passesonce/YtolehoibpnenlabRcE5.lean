/-
  The document's Right of a recurrence: the walk where a band is.
-/
import Derived.Test.YtolehoibpnenlabRcE
namespace Go.Proofs.Ytolehoibpnenlab
open Go.RowKit Go.Deep Go.Maps
set_option maxRecDepth 20000 in
set_option maxHeartbeats 2000000 in
theorem rb_main1 (x : Rc) (da : Option Addr) (dn dc : Nat) (sa : Option Addr) (sn sc : Nat) (ta : Option Addr) (tn tc : Nat) (w : World) (h : RcAt w x da dn sa sn ta tn) (f0 : (valsB x.defs).2 = 0) (f1 : ¬ x.letters < 2) (f2 : ¬ 20 < x.letters) (f3 : (sn : Int) = x.letters * x.letters) (f4 : ¬ x.beg < 1) (f5 : ¬ 3 < x.beg) (f6 : ¬ x.fin < 1) (f7 : ¬ 3 < x.fin) (f8 : ¬ (9 : Int) < (tn : Int)) (f9 : ¬ x.front < 0) (f10 : ¬ (dn : Int) ≤ x.front) (f11 : ¬ x.back < 0) (f12 : ¬ (dn : Int) ≤ x.back) (f13 : ¬ vAt (valsB x.defs).1 x.front < 0) (f14 : ¬ vAt (valsB x.defs).1 x.back < 0) (f15 : ¬ x.hi < x.lo) (f16 : ¬ (x.banded = false ∧ x.lo ≠ 0)) (f17 : ¬ (x.banded = false ∧ x.hi ≠ 0)) (hbn : x.banded = true) :
    Calls Try.prog 5 #[.agg (rcCells x da dn dc sa sn sc ta tn tc)] w fun e w' => e = .returned (.bool (placesB dn x.subst && x.states.all (stateB tn dn))) ∧ Below w.heap.size w w' := by
  have hdn := h.defs.short
  have hsn := h.subst.short
  have htn := h.states.short
  have e1 := h.defs.length
  have HB : Hid (Rb w (rcCells x da dn dc sa sn sc ta tn tc) (w.alloc (.cells (rcCells x da dn dc sa sn sc ta tn tc) 26))) := Rb.start w _
  have HS : Hid (RcAt w x da dn sa sn ta tn) := h
  have HLn : Hid ((valsB x.defs).2 = 0 → (valsB x.defs).1.length = dn) := fun h0 => by rw [(valsB_len x.defs h0).1, e1]
  have hfew := valsB_few x.defs
  unfold maxLen at hdn hsn htn
  clear h e1
  obtain ⟨L, defs, subst, beg, fin, front, back, banded, lo, hi, states⟩ := x
  unfold rcCells at HB ⊢
  simp only at *
  subst hbn
  clear f16 f17
  obtain ⟨R, hR⟩ : ∃ R, (placesB dn subst && states.all (stateB tn dn)) = R := ⟨_, rfl⟩
  have HRR : Hid (R = (placesB dn subst && (states.drop 0).all (stateB tn dn))) := by show R = _; rw [List.drop_zero, hR]
  rw [hR]
  clear hR
  go_enter Try.func5, Try.ntmps5
  go_wp2_with fail
  refine (refvalues_calls defs da dn dc _ (HS.out.defs.below HB.out.low)).mono ?_
  rintro e w1 ⟨vo, vc, rfl, hown, hb1⟩
  have HX : Hid (Rb w #[.int .i64 L, .slice da dn dc, .slice sa sn sc, .int .i64 beg, .int .i64 fin, .int .i64 front, .int .i64 back, .bool true, .int .i64 lo, .int .i64 hi, .slice ta tn tc] w1 ∧ IntA w1 vo (valsB defs).1.length (valsB defs).1) := ⟨HB.out.next hb1, intA_own hown rfl (by unfold maxLen; omega)⟩
  clear hown hb1 HB
  have c0 : w1.cell? ⟨w.heap.size, 0, none⟩ = some (.int .i64 L) := blk HX.out.1.box rfl
  have c1 : w1.cell? ⟨w.heap.size, 1, none⟩ = some (.slice da dn dc) := blk HX.out.1.box rfl
  have c2 : w1.cell? ⟨w.heap.size, 2, none⟩ = some (.slice sa sn sc) := blk HX.out.1.box rfl
  have c3 : w1.cell? ⟨w.heap.size, 3, none⟩ = some (.int .i64 beg) := blk HX.out.1.box rfl
  have c4 : w1.cell? ⟨w.heap.size, 4, none⟩ = some (.int .i64 fin) := blk HX.out.1.box rfl
  have c5 : w1.cell? ⟨w.heap.size, 5, none⟩ = some (.int .i64 front) := blk HX.out.1.box rfl
  have c6 : w1.cell? ⟨w.heap.size, 6, none⟩ = some (.int .i64 back) := blk HX.out.1.box rfl
  have c7 : w1.cell? ⟨w.heap.size, 7, none⟩ = some (.bool true) := blk HX.out.1.box rfl
  have c8 : w1.cell? ⟨w.heap.size, 8, none⟩ = some (.int .i64 lo) := blk HX.out.1.box rfl
  have c9 : w1.cell? ⟨w.heap.size, 9, none⟩ = some (.int .i64 hi) := blk HX.out.1.box rfl
  have c10 : w1.cell? ⟨w.heap.size, 10, none⟩ = some (.slice ta tn tc) := blk HX.out.1.box rfl
  generalize hge : (valsB defs).2 = er at *
  generalize hgv : (valsB defs).1 = vs at *
  clear hge hgv
  have HVL : Hid (vs.length = dn) := HLn.out f0
  have k_f0 : (er != 0) = false := by simp [f0]
  clear f0 HLn
  have k_f1 : decide (L < 2) = false := by simpa using f1
  have k_f2 : decide (20 < L) = false := by simpa using f2
  obtain ⟨nn, hnL⟩ := Int.eq_ofNat_of_zero_le (show 0 ≤ L by omega)
  have hm1 : 0 ≤ L * L ∧ L * L ≤ 400 := by
    rw [hnL]
    have hn20 : nn ≤ 20 := by omega
    have hsq : nn * nn ≤ 400 := by have := Nat.mul_le_mul hn20 hn20; omega
    have hsqi : (nn : Int) * (nn : Int) = ((nn * nn : Nat) : Int) := by simp
    rw [hsqi]; omega
  obtain ⟨hm1, hm2⟩ := hm1
  clear hnL
  have k_f3 : ((sn : Int) != L * L) = false := by simpa using f3
  clear f3
  have k_f4 : decide (beg < 1) = false := by simpa using f4
  have k_f5 : decide (3 < beg) = false := by simpa using f5
  have k_f6 : decide (fin < 1) = false := by simpa using f6
  have k_f7 : decide (3 < fin) = false := by simpa using f7
  have k_f8 : decide ((9 : Int) < (tn : Int)) = false := by simpa using f8
  have k_f9 : decide (front < 0) = false := by simpa using f9
  have k_f10 : decide ((dn : Int) ≤ front) = false := by simpa using f10
  have k_f11 : decide (back < 0) = false := by simpa using f11
  have k_f12 : decide ((dn : Int) ≤ back) = false := by simpa using f12
  obtain ⟨qf, rfl⟩ := Int.eq_ofNat_of_zero_le (show 0 ≤ front by omega)
  obtain ⟨qb, rfl⟩ := Int.eq_ofNat_of_zero_le (show 0 ≤ back by omega)
  have hqf : qf < vs.length := by have := HVL.out; omega
  have hqb : qb < vs.length := by have := HVL.out; omega
  have hvf := vAt_get (vs := vs) (i := qf) hqf
  have hvb := vAt_get (vs := vs) (i := qb) hqb
  obtain ⟨g2', o2, rfl, cf⟩ := HX.out.2.isI qf _ hvf
  obtain ⟨g3', o3, e3, cb⟩ := HX.out.2.isI qb _ hvb
  cases e3
  clear hvf hvb
  generalize vAt vs (qf : Int) = zf at *
  generalize vAt vs (qb : Int) = zb at *
  have k_f13 : decide (zf < 0) = false := by simpa using f13
  have k_f14 : decide (zb < 0) = false := by simpa using f14
  have k_f15 : decide (hi < lo) = false := by simpa using f15
  go_wp2
  go_loop [6] (fun i => ∃ k : Nat, k ≤ sn ∧ i = .int .i64 k ∧ Hid (∀ (j : Nat) (p : Int), j < k → subst[j]? = some p → inI p 0 ((dn : Int) - 1) = true)) (fun i => sn - (intOf i).toNat)
  case atStart => exact ⟨0, Nat.zero_le _, rfl, fun j p hj => by omega⟩
  case round =>
    obtain ⟨k, hk, rfl, HA⟩ := hrel
    by_cases hlt : k < sn
    · obtain ⟨p, hpk⟩ : ∃ p, subst[k]? = some p := ⟨subst[k]'(by rw [HS.out.subst.length]; exact hlt), List.getElem?_eq_getElem _⟩
      obtain ⟨g1', o1', rfl, hc1⟩ := (HS.out.subst.below HX.out.1.low).isI k p hpk
      have HK : Hid (subst[k]? = some p) := hpk
      clear hpk
      by_cases p1 : p < 0
      · have kp1 : decide (p < 0) = true := by simpa using p1
        have HE : Hid (R = false) := by rw [HRR.out, placesB_bad k p HK.out (by rw [inI_no]; omega)]; rfl
        go_wp2
        go_ret
        exact ⟨ret_bool HE.out.symm, HX.out.1.low⟩
      have kp1 : decide (p < 0) = false := by simpa using p1
      by_cases p2 : (dn : Int) ≤ p
      · have kp2 : decide ((dn : Int) ≤ p) = true := by simpa using p2
        have HE : Hid (R = false) := by rw [HRR.out, placesB_bad k p HK.out (by rw [inI_no]; omega)]; rfl
        go_wp2
        go_ret
        exact ⟨ret_bool HE.out.symm, HX.out.1.low⟩
      have kp2 : decide ((dn : Int) ≤ p) = false := by simpa using p2
      have HP : Hid (inI p 0 ((dn : Int) - 1) = true) := inI_iff.2 ⟨by omega, by omega⟩
      go_wp2
      go_round
      case rel =>
        refine ⟨k + 1, by omega, by go_num, ?_⟩
        intro j p' hj hjp
        by_cases e : j = k
        · subst e; rw [HK.out] at hjp; cases hjp; exact HP.out
        · exact HA.out j p' (by omega) hjp
      case measure => simp [intOf]; omega
    · have HR2 : Hid ((states.drop 0).all (stateB tn dn) = R) := by
        rw [HRR.out, placesB_all (fun j p hj => HA.out j p (by have := (List.getElem?_eq_some_iff.1 hj).1; rw [HS.out.subst.length] at this; omega) hj)]
        rfl
      clear HA HRR
      go_wp2
      go_loopw [7] (fun i wr => ∃ k : Nat, k ≤ tn ∧ i = .int .i64 k ∧ Hid ((states.drop k).all (stateB tn dn) = R ∧ Rb w #[.int .i64 L, .slice da dn dc, .slice sa sn sc, .int .i64 beg, .int .i64 fin, .int .i64 (qf : Int), .int .i64 (qb : Int), .bool true, .int .i64 lo, .int .i64 hi, .slice ta tn tc] wr)) (fun i _ => tn - (intOf i).toNat)
      case atStart => exact ⟨0, Nat.zero_le _, rfl, HR2.out, HX.out.1⟩
      case round =>
        clear HR2 HX c0 c1 c2 c3 c4 c5 c6 c7 c8 c9 c10
        obtain ⟨k2, hk2, rfl, HT⟩ := hrel
        have x10 : wr.cell? ⟨w.heap.size, 10, none⟩ = some (.slice ta tn tc) := blk HT.out.2.box rfl
        by_cases hlt2 : k2 < tn
        · obtain ⟨d, hdi⟩ : ∃ d, states[k2]? = some d := ⟨states[k2]'(by rw [HS.out.states.length]; exact hlt2), List.getElem?_eq_getElem _⟩
          obtain ⟨b, off, rfl, hcs⟩ := (HS.out.states.below HT.out.2.low).cells (by omega)
          obtain ⟨ea, en, ec, c1, c2, hpc⟩ := hcs k2 d hdi
          have hen := hpc.short
          unfold maxLen at hen
          have HE : Hid ((inI d.1 1 3 && edgesB tn dn (-1) d.2 && (states.drop (k2 + 1)).all (stateB tn dn)) = R) := by
            have := HT.out.1
            rw [allS_drop hdi] at this
            exact this
          obtain ⟨kd, es⟩ := d
          simp only at c1 c2 HE hpc
          have HPC : Hid (PcsAt wr ea en es) := hpc
          clear hcs hdi hpc
          by_cases q1 : kd < 1
          · have kq1 : decide (kd < 1) = true := by simpa using q1
            have HF : Hid (R = false ∧ Below w.heap.size w (wr.alloc (.cells #[.int .i64 kd, .slice ea en ec] 39))) := ⟨by rw [← HE.out, show inI kd 1 3 = false by rw [inI_no]; omega]; rfl, (HT.out.2.alloc _).low⟩
            go_wp2
            go_ret
            exact ⟨ret_bool HF.out.1.symm, HF.out.2⟩
          have kq1 : decide (kd < 1) = false := by simpa using q1
          by_cases q2 : 3 < kd
          · have kq2 : decide (3 < kd) = true := by simpa using q2
            have HF : Hid (R = false ∧ Below w.heap.size w (wr.alloc (.cells #[.int .i64 kd, .slice ea en ec] 39))) := ⟨by rw [← HE.out, show inI kd 1 3 = false by rw [inI_no]; omega]; rfl, (HT.out.2.alloc _).low⟩
            go_wp2
            go_ret
            exact ⟨ret_bool HF.out.1.symm, HF.out.2⟩
          have kq2 : decide (3 < kd) = false := by simpa using q2
          have HR3 : Hid ((edgesB tn dn ((-2) + 1) (es.drop 0) && (states.drop (k2 + 1)).all (stateB tn dn)) = R) := by
            rw [← HE.out, show inI kd 1 3 = true by rw [inI_iff]; omega, List.drop_zero]
            rfl
          clear HE
          have HX : Hid (Rb w #[.int .i64 L, .slice da dn dc, .slice sa sn sc, .int .i64 beg, .int .i64 fin, .int .i64 (qf : Int), .int .i64 (qb : Int), .bool true, .int .i64 lo, .int .i64 hi, .slice (some ⟨b, off, none⟩) tn tc] (wr.alloc (.cells #[.int .i64 kd, .slice ea en ec] 39)) ∧ Below wr.heap.size wr (wr.alloc (.cells #[.int .i64 kd, .slice ea en ec] 39)) ∧ (wr.alloc (.cells #[.int .i64 kd, .slice ea en ec] 39)).heap[wr.heap.size]? = some (.cells #[.int .i64 kd, .slice ea en ec] 39 (0, 0))) := ⟨HT.out.2.alloc _, (Below.refl _ _).alloc (Nat.le_refl _) _, heap_alloc_new wr _⟩
          clear HT
          go_wp2
          obtain ⟨wo, hwo⟩ : ∃ wo : World, wo = wr := ⟨_, rfl⟩
          subst hwo
          go_loopw [9, 10] (fun bv iv wr => ∃ (j : Nat) (bh : Int), j ≤ en ∧ iv = .int .i64 j ∧ bv = .int .i64 bh ∧ Hid ((edgesB tn dn (bh + 1) (es.drop j) && (states.drop (k2 + 1)).all (stateB tn dn)) = R ∧ Rb w #[.int .i64 L, .slice da dn dc, .slice sa sn sc, .int .i64 beg, .int .i64 fin, .int .i64 (qf : Int), .int .i64 (qb : Int), .bool true, .int .i64 lo, .int .i64 hi, .slice (some ⟨b, off, none⟩) tn tc] wr ∧ Below wo.heap.size wo wr ∧ wr.heap[wo.heap.size]? = some (.cells #[.int .i64 kd, .slice ea en ec] 39 (0, 0)))) (fun _ i _ => en - (intOf i).toNat)
          case atStart => exact ⟨0, -2, Nat.zero_le _, rfl, rfl, HR3.out, HX.out⟩
          case round =>
            clear HR3 HX c1 c2 x10
            obtain ⟨j, bh, hj, rfl, rfl, HU⟩ := hrel
            have x10 : wr.cell? ⟨w.heap.size, 10, none⟩ = some (.slice (some ⟨b, off, none⟩) tn tc) := blk HU.out.2.1.box rfl
            have y1 : wr.cell? ⟨wo.heap.size, 1, none⟩ = some (.slice ea en ec) := blk HU.out.2.2.2 rfl
            by_cases hlt3 : j < en
            · obtain ⟨d, hdi⟩ : ∃ d, es[j]? = some d := ⟨es[j]'(by rw [HPC.out.length]; exact hlt3), List.getElem?_eq_getElem _⟩
              obtain ⟨b2, off2, rfl, hcs⟩ := (HPC.out.below HU.out.2.2.1).cells (by omega)
              obtain ⟨c1, c2⟩ := hcs j d hdi
              have HE : Hid ((edgeD d bh tn dn && edgesB tn dn (d.1 + 1) (es.drop (j + 1)) && (states.drop (k2 + 1)).all (stateB tn dn)) = R) := by
                have := HU.out.1
                rw [dropP hdi] at this
                rw [edgeD_eq _ _ _ _ (by omega)]
                exact this
              obtain ⟨sv, cv⟩ := d
              simp only at c1 c2 HE
              have HDI : Hid (es[j]? = some (sv, cv)) := hdi
              clear hcs hdi
              have HD : Hid (∀ W, Calls Try.prog 11 #[.agg #[.int .i64 sv, .int .i64 cv], .int .i64 bh, .int .i64 (tn : Int), .int .i64 (dn : Int)] W fun e w' => e = .returned (.bool (edgeD (sv, cv) bh tn dn)) ∧ Below W.heap.size W w') := fun W => edgeD_calls sv cv bh tn dn W
              generalize edgeD (sv, cv) bh tn dn = ok at *
              have hJ0 : JR w #[.int .i64 L, .slice da dn dc, .slice sa sn sc, .int .i64 beg, .int .i64 fin, .int .i64 (qf : Int), .int .i64 (qb : Int), .bool true, .int .i64 lo, .int .i64 hi, .slice (some ⟨b, off, none⟩) tn tc] wo #[.int .i64 kd, .slice (some ⟨b2, off2, none⟩) en ec] wr := ⟨HU.out.2.1, HU.out.2.2.1, HU.out.2.2.2⟩
              have HPC2 : Hid (PcsAt wo (some ⟨b2, off2, none⟩) en es ∧ es[j]? = some (sv, cv)) := ⟨HPC.out, HDI.out⟩
              have HJK : Hid (∀ W, JR w #[.int .i64 L, .slice da dn dc, .slice sa sn sc, .int .i64 beg, .int .i64 fin, .int .i64 (qf : Int), .int .i64 (qb : Int), .bool true, .int .i64 lo, .int .i64 hi, .slice (some ⟨b, off, none⟩) tn tc] wo #[.int .i64 kd, .slice (some ⟨b2, off2, none⟩) en ec] W → W.cell? ⟨w.heap.size, 10, none⟩ = some (.slice (some ⟨b, off, none⟩) tn tc) ∧ W.cell? ⟨wo.heap.size, 1, none⟩ = some (.slice (some ⟨b2, off2, none⟩) en ec) ∧ W.cell? ⟨b2, off2 + j * 2, none⟩ = some (.int .i64 sv) ∧ W.cell? ⟨b2, off2 + j * 2 + 1, none⟩ = some (.int .i64 cv)) := fun W hW => by
                refine ⟨blk hW.rb.box rfl, blk hW.st rfl, ?_⟩
                obtain ⟨b', off', e', hc'⟩ := (HPC2.out.1.below hW.low).cells (by omega)
                cases e'
                exact hc' j _ HPC2.out.2
              have HJB : Hid (∀ W W', JR w #[.int .i64 L, .slice da dn dc, .slice sa sn sc, .int .i64 beg, .int .i64 fin, .int .i64 (qf : Int), .int .i64 (qb : Int), .bool true, .int .i64 lo, .int .i64 hi, .slice (some ⟨b, off, none⟩) tn tc] wo #[.int .i64 kd, .slice (some ⟨b2, off2, none⟩) en ec] W → Below W.heap.size W W' → JR w #[.int .i64 L, .slice da dn dc, .slice sa sn sc, .int .i64 beg, .int .i64 fin, .int .i64 (qf : Int), .int .i64 (qb : Int), .bool true, .int .i64 lo, .int .i64 hi, .slice (some ⟨b, off, none⟩) tn tc] wo #[.int .i64 kd, .slice (some ⟨b2, off2, none⟩) en ec] W') := fun W W' h hb => h.next hb
              have hJ1 := HJB.out _ _ hJ0 (Below.refl _ _).drew
              have y := HJK.out _ hJ1
              clear HU HPC2
              go_upto_region 22 with (fail)
              go_region_held3 (fun W => JR w #[.int .i64 L, .slice da dn dc, .slice sa sn sc, .int .i64 beg, .int .i64 fin, .int .i64 (qf : Int), .int .i64 (qb : Int), .bool true, .int .i64 lo, .int .i64 hi, .slice (some ⟨b, off, none⟩) tn tc] wo #[.int .i64 kd, .slice (some ⟨b2, off2, none⟩) en ec] W ∧ W.cell? ⟨w.heap.size, 10, none⟩ = some (.slice (some ⟨b, off, none⟩) tn tc) ∧ W.cell? ⟨wo.heap.size, 1, none⟩ = some (.slice (some ⟨b2, off2, none⟩) en ec) ∧ W.cell? ⟨b2, off2 + j * 2, none⟩ = some (.int .i64 sv) ∧ W.cell? ⟨b2, off2 + j * 2 + 1, none⟩ = some (.int .i64 cv)) (first | exact ⟨hJ1, y⟩ | exact ⟨by assumption, HJK.out _ (by assumption)⟩) (first
                | (go_at_call 11; (with_reducible refine (HD.out _).mono ?_); rintro e W1 ⟨rfl, hb⟩; have HJ' := HJB.out _ _ (by assumption) hb; have hc' := HJK.out _ HJ'; clear hb))
              have HE2 : Hid ((ok && edgesB tn dn (sv + 1) (es.drop (j + 1)) && (states.drop (k2 + 1)).all (stateB tn dn)) = R ∧ JR w #[.int .i64 L, .slice da dn dc, .slice sa sn sc, .int .i64 beg, .int .i64 fin, .int .i64 (qf : Int), .int .i64 (qb : Int), .bool true, .int .i64 lo, .int .i64 hi, .slice (some ⟨b, off, none⟩) tn tc] wo #[.int .i64 kd, .slice (some ⟨b2, off2, none⟩) en ec] W1) := ⟨HE.out, HJ'⟩
              obtain ⟨z1, z2, z3, z4⟩ := hc'
              clear HE HJ' HD HJK HJB hJ0 hJ1 y
              cases ok with
              | false =>
                go_wp2
                go_ret
                exact ⟨ret_bool (by rw [← HE2.out.1]; rfl), HE2.out.2.rb.low⟩
              | true =>
                go_wp2
                go_roundw
                case rel => exact ⟨j + 1, sv, by omega, by go_num, rfl, by rw [← HE2.out.1]; rfl, HE2.out.2.rb, HE2.out.2.low, HE2.out.2.st⟩
                case measure => simp [intOf]; omega
            · have HE : Hid ((states.drop (k2 + 1)).all (stateB tn dn) = R ∧ Rb w #[.int .i64 L, .slice da dn dc, .slice sa sn sc, .int .i64 beg, .int .i64 fin, .int .i64 (qf : Int), .int .i64 (qb : Int), .bool true, .int .i64 lo, .int .i64 hi, .slice (some ⟨b, off, none⟩) tn tc] wr) := by
                have := HU.out.1
                rw [List.drop_eq_nil_of_le (by rw [HPC.out.length]; omega)] at this
                exact ⟨this, HU.out.2.1⟩
              clear HU
              go_wp2
              go_roundw
              case rel => exact ⟨k2 + 1, by omega, by go_num, HE.out.1, HE.out.2⟩
              case measure => simp [intOf]; omega
        · have HE : Hid (R = true ∧ Below w.heap.size w wr) := by
            have := HT.out.1
            rw [List.drop_eq_nil_of_le (by rw [HS.out.states.length]; omega)] at this
            exact ⟨this.symm, HT.out.2.low⟩
          clear HT
          go_wp2
          go_ret
          exact ⟨ret_bool HE.out.1.symm, HE.out.2⟩
end Go.Proofs.Ytolehoibpnenlab
