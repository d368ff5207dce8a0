/-
  The document's Fold.
-/
import Derived.Test.YtolehoibpnenlaaMd
namespace Go.Proofs.Ytolehoibpnenlaa
open Go.RowKit Go.Deep Go.Maps

theorem df_new (W : World) (z : Int) : SrcAt (W.alloc (.cells #[.int .i64 1, .int .i64 z, .int .i64 0, .int .i64 0] 36)).drew (some ⟨W.heap.size, 0, none⟩) 1 4 (dfCells (numD z)) :=
  ⟨rfl, df_one _, .inr ⟨_, rfl, cells_new W (dfCells (numD z)) 36⟩⟩
theorem costsL_snoc (l : List (Int × Int)) (e : Int × Int) : costsL (l ++ [e]) = costsL l ++ (if e.2 = -1 then [] else [e.2]) := by
  by_cases h : e.2 = -1 <;> simp [costsL, h]
set_option maxRecDepth 20000 in
set_option maxHeartbeats 1000000 in
theorem refFold_calls (x : Rc) (da : Option Addr) (dn dc : Nat) (sa : Option Addr) (sn sc : Nat) (ta : Option Addr) (tn tc : Nat) (w : World) (h : RcAt w x da dn sa sn ta tn) :
    Calls Try.prog 11 #[.agg (rcCells x da dn dc sa sn sc ta tn tc)] w fun e w' => UPost (okX (rightR x) (foldB x (valsB x.defs).1)) (okE (rightR x)) w e w' := by
  have hres : Try.f11.results = #[.cell 2 26, .tmp 3] := by kernel_rfl
  obtain ⟨i36, hi36, hz360, hz361, hz362⟩ := info_parts info36
  have HB0 : Hid (D5 w (rcCells x da dn dc sa sn sc ta tn tc) ((w.alloc (.cells (rcCells x da dn dc sa sn sc ta tn tc) 26)).alloc (.cells #[.int .i64 0, .slice none 0 0, .slice none 0 0, .int .i64 0, .int .i64 0, .int .i64 0, .int .i64 0, .bool false, .int .i64 0, .int .i64 0, .slice none 0 0] 26))) := D5.start _ _
  have HC : Hid (∀ W, Below w.heap.size w W → Calls Try.prog 24 #[.agg (rcCells x da dn dc sa sn sc ta tn tc)] W fun e w' => e = .returned (.bool (rightR x)) ∧ Below W.heap.size W w') := fun W hW => refright_calls x da dn dc sa sn sc ta tn tc W (h.below hW)
  have HCp : Hid (∀ W, rightR x = true → Below w.heap.size w W → Calls Try.prog 27 #[.agg (rcCells x da dn dc sa sn sc ta tn tc)] W fun e w' => ∃ da2 dc2 sa2 sc2 ta2 tc2 sl, e = .returned (.agg (rcCells x da2 x.defs.length dc2 sa2 x.subst.length sc2 ta2 x.states.length tc2)) ∧ Below W.heap.size W w' ∧ CpO w' W.heap.size x da2 dc2 sa2 sc2 ta2 tc2 sl) := fun W hr hW => copyR_calls x da dn dc sa sn sc ta tn tc W (h.below hW) (right_rcB hr)
  have HX : Hid (∀ W, Below w.heap.size w W → RcAt W x da dn sa sn ta tn) := fun W hW => h.below hW
  have HL : Hid (x.defs.length = dn ∧ x.subst.length = sn ∧ x.states.length = tn) := ⟨h.defs.length, h.subst.length, h.states.length⟩
  obtain ⟨ok, hok⟩ : ∃ ok, rightR x = ok := ⟨_, rfl⟩
  have HOK : Hid (rightR x = ok) := hok
  obtain ⟨vs, hvs⟩ : ∃ vs, (valsB x.defs).1 = vs := ⟨_, rfl⟩
  have HVS : Hid ((valsB x.defs).1 = vs) := hvs
  rw [hok] at HC ⊢
  rw [hvs]
  clear h hok hvs
  unfold rcCells at HB0 HC HCp ⊢
  go_enter Try.func11, Try.ntmps11
  go_wp2_with fail
  refine (HC.out _ HB0.out.low).mono ?_
  rintro e w1 ⟨rfl, hb1⟩
  have HB1 : Hid (D5 w #[.int .i64 x.letters, .slice da dn dc, .slice sa sn sc, .int .i64 x.beg, .int .i64 x.fin, .int .i64 x.front, .int .i64 x.back, .bool x.banded, .int .i64 x.lo, .int .i64 x.hi, .slice ta tn tc] w1) := HB0.out.next hb1 (by simp)
  clear hb1 HB0 HC
  cases ok with
  | false =>
    have r0 : w1.cell? ⟨w.heap.size + 1, 0, none⟩ = some (.int .i64 0) := blk (HB1.out.res) rfl
    have r1 : w1.cell? ⟨w.heap.size + 1, 1, none⟩ = some (.slice none 0 0) := blk (HB1.out.res) rfl
    have r2 : w1.cell? ⟨w.heap.size + 1, 2, none⟩ = some (.slice none 0 0) := blk (HB1.out.res) rfl
    have r3 : w1.cell? ⟨w.heap.size + 1, 3, none⟩ = some (.int .i64 0) := blk (HB1.out.res) rfl
    have r4 : w1.cell? ⟨w.heap.size + 1, 4, none⟩ = some (.int .i64 0) := blk (HB1.out.res) rfl
    have r5 : w1.cell? ⟨w.heap.size + 1, 5, none⟩ = some (.int .i64 0) := blk (HB1.out.res) rfl
    have r6 : w1.cell? ⟨w.heap.size + 1, 6, none⟩ = some (.int .i64 0) := blk (HB1.out.res) rfl
    have r7 : w1.cell? ⟨w.heap.size + 1, 7, none⟩ = some (.bool false) := blk (HB1.out.res) rfl
    have r8 : w1.cell? ⟨w.heap.size + 1, 8, none⟩ = some (.int .i64 0) := blk (HB1.out.res) rfl
    have r9 : w1.cell? ⟨w.heap.size + 1, 9, none⟩ = some (.int .i64 0) := blk (HB1.out.res) rfl
    have r10 : w1.cell? ⟨w.heap.size + 1, 10, none⟩ = some (.slice none 0 0) := blk (HB1.out.res) rfl
    have rf : ∀ i, w1.frozen? ⟨w.heap.size + 1, i, none⟩ = false := fun i => frozen_of_row w1 _ i _ _ HB1.out.res
    go_wp2
    refine bodyPost_ret (v := .tuple #[.agg #[.int .i64 0, .slice none 0 0, .slice none 0 0, .int .i64 0, .int .i64 0, .int .i64 0, .int .i64 0, .bool false, .int .i64 0, .int .i64 0, .slice none 0 0], .int .i64 120]) ?_ rfl ?_
    · simp only [results, hres]
      go_simp
    · exact ⟨none, 0, none, 0, none, 0, rfl, below_r HB1.out.low _ _ _ _ _ _ _ _ _ _ _, zero_rcO _ _⟩
  | true =>
    have HVL : Hid (vs.length = dn) := by show _ = _; rw [← HVS.out, (right_defs HOK.out).2]; exact HL.out.1
    have hdn : dn ≤ 5004 := by rw [← HL.out.1]; exact (right_defs HOK.out).1
    have hsn : sn ≤ 400 := by rw [← HL.out.2.1]; exact (right_subst HOK.out).1
    have hsn4 : 4 ≤ sn := by rw [← HL.out.2.1]; exact (right_subst HOK.out).2.1
    have htn : tn ≤ 9 := by rw [← HL.out.2.2]; exact (right_states HOK.out).1
    have HPl : Hid ((placesL x).length ≤ 2000 ∧ ∀ p ∈ placesL x, 0 ≤ p ∧ p < dn) := by
      have := placesL_len x HOK.out
      rw [HL.out.1] at this
      exact this
    have c1 : w1.cell? ⟨w.heap.size, 1, none⟩ = some (.slice da dn dc) := blk HB1.out.box rfl
    go_wp2_with fail
    refine (refvalues_calls x.defs da dn dc w1 (HX.out w1 HB1.out.low).defs).mono ?_
    rintro e w2 ⟨va, vc, rfl, hov, hb2⟩
    rw [HVS.out, HVL.out] at hov
    rw [HVS.out, HVL.out]
    obtain ⟨vg, vcc, hva0, _, _, _, _⟩ := owned_some hov (by obtain ⟨q1, _⟩ := right_ends HOK.out; rw [HL.out.1] at q1; omega)
    cases hva0
    have HD : Hid (∀ W, Below w2.heap.size w2 W → D5 w #[.int .i64 x.letters, .slice da dn dc, .slice sa sn sc, .int .i64 x.beg, .int .i64 x.fin, .int .i64 x.front, .int .i64 x.back, .bool x.banded, .int .i64 x.lo, .int .i64 x.hi, .slice ta tn tc] W ∧ (∀ p : Nat, p < dn → W.cell? ⟨vg, p, none⟩ = some (.int .i64 (vAt vs (p : Int)))) ∧ RcAt W x da dn sa sn ta tn) := fun W hW => by
      have hd := (HB1.out.next hb2 HB1.out.sz).next hW (HB1.out.next hb2 HB1.out.sz).sz
      refine ⟨hd, fun p hp => (owned_cells (owned_below hov hW) p _ ?_).1, HX.out W hd.low⟩
      have hpl : p < vs.length := by rw [HVL.out]; exact hp
      simp [itRow, vAt, hpl]
    clear hb2 hov c1 HB1
    obtain ⟨fr, hfr⟩ : ∃ fr : Nat, x.front = (fr : Int) ∧ fr < dn := by
      have := HPl.out.2 x.front (by simp [placesL])
      exact ⟨x.front.toNat, by omega, by omega⟩
    obtain ⟨bk, hbk⟩ : ∃ bk : Nat, x.back = (bk : Int) ∧ bk < dn := by
      have := HPl.out.2 x.back (by simp [placesL])
      exact ⟨x.back.toNat, by omega, by omega⟩
    have HFB : Hid (x.front = (fr : Int) ∧ x.back = (bk : Int)) := ⟨hfr.1, hbk.1⟩
    have hfr2 := hfr.2
    have hbk2 := hbk.2
    have f5 : ∀ W, Below w2.heap.size w2 W → W.cell? ⟨w.heap.size, 5, none⟩ = some (.int .i64 (fr : Int)) := fun W hW => by rw [← HFB.out.1]; exact blk (HD.out W hW).1.box rfl
    have f6 : ∀ W, Below w2.heap.size w2 W → W.cell? ⟨w.heap.size, 6, none⟩ = some (.int .i64 (bk : Int)) := fun W hW => by rw [← HFB.out.2]; exact blk (HD.out W hW).1.box rfl
    have HF5 : Hid (∀ W, Below w2.heap.size w2 W → W.cell? ⟨w.heap.size, 5, none⟩ = some (.int .i64 (fr : Int)) ∧ W.cell? ⟨w.heap.size, 6, none⟩ = some (.int .i64 (bk : Int)) ∧ W.cell? ⟨vg, fr, none⟩ = some (.int .i64 (vAt vs (fr : Int))) ∧ W.cell? ⟨vg, bk, none⟩ = some (.int .i64 (vAt vs (bk : Int)))) := fun W hW => ⟨f5 W hW, f6 W hW, (HD.out W hW).2.1 fr hfr2, (HD.out W hW).2.1 bk hbk2⟩
    clear hfr hbk f5 f6
    obtain ⟨zf, hzf⟩ : ∃ zf, vAt vs (fr : Int) = zf := ⟨_, rfl⟩
    obtain ⟨zb, hzb⟩ : ∃ zb, vAt vs (bk : Int) = zb := ⟨_, rfl⟩
    rw [hzf, hzb] at HF5
    have HZF : Hid (zf = vAt vs x.front ∧ zb = vAt vs x.back) := by rw [HFB.out.1, HFB.out.2]; exact ⟨hzf.symm, hzb.symm⟩
    clear hzf hzb
    have hfd : (fr : Int) < (dn : Int) := by omega
    have hbd : (bk : Int) < (dn : Int) := by omega
    obtain ⟨e5, e6, ef, eb⟩ := HF5.out w2 (Below.refl _ _)
    go_wp2_with fail
    refine (with_ls (w2 := w2) (vs := vs) (ps := []) (W := w2) ⟨none, 0, 0, rfl, rfl, ⟨rfl, Nat.zero_le _, fun i v hi => by simp [wl] at hi⟩, Below.refl _ _⟩ x.front zf HZF.out.1 (by simp)).mono ?_
    rintro e w3 ⟨lo3, m3, lc3, rfl, hls3, _⟩
    have HL3 : Hid (LS w2 vs ([] ++ [x.front]) (.slice lo3 m3 lc3) w3) := hls3
    clear hls3 e5 e6 ef eb
    have hb3 := ls_low HL3.out
    obtain ⟨e5, e6, ef, eb⟩ := HF5.out w3 hb3
    clear hb3
    go_wp2_with fail
    refine (with_ls HL3.out x.back zb HZF.out.2 (by simp)).mono ?_
    rintro e w4 ⟨lo4, m4, lc4, rfl, hls4, _⟩
    have HL4 : Hid (LS w2 vs (x.front :: x.back :: x.subst.take 0) (.slice lo4 m4 lc4) w4) := hls4
    clear hls4 e5 e6 ef eb HL3
    have hb4 := ls_low HL4.out
    have c2 : w4.cell? ⟨w.heap.size, 2, none⟩ = some (.slice sa sn sc) := blk (HD.out w4 hb4).1.box rfl
    clear hb4
    go_wp2
    go_loopg [7, 8] sn (fun q lv iv wr => ∃ (j : Nat), j + q = sn ∧ iv = .int .i64 j ∧ Hid (LS w2 vs (x.front :: x.back :: x.subst.take j) lv wr))
    case atStart => exact ⟨0, by omega, rfl, HL4.out⟩
    case round =>
      clear HL4 c2
      obtain ⟨j, hjq, rfl, HLj⟩ := hrel
      obtain ⟨lo, m, lc, rfl⟩ := ls_val HLj.out
      have hbj := ls_low HLj.out
      have c2 : wr.cell? ⟨w.heap.size, 2, none⟩ = some (.slice sa sn sc) := blk (HD.out wr hbj).1.box rfl
      by_cases hlt : j < sn
      · obtain ⟨p, hp⟩ : ∃ p, x.subst[j]? = some p := ⟨x.subst[j]'(by rw [HL.out.2.1]; exact hlt), List.getElem?_eq_getElem _⟩
        obtain ⟨g1, o1, hsa, hc1⟩ := (HD.out wr hbj).2.2.subst.isI j p hp
        obtain ⟨pn, hpn⟩ : ∃ pn : Nat, p = (pn : Int) ∧ pn < dn := by
          have := HPl.out.2 p (by simp [placesL, List.mem_of_getElem? hp])
          exact ⟨p.toNat, by omega, by omega⟩
        obtain ⟨z, hz⟩ : ∃ z, vAt vs (pn : Int) = z := ⟨_, rfl⟩
        have hcv := (HD.out wr hbj).2.1 pn hpn.2
        rw [hz] at hcv
        have HSN : Hid ((x.front :: x.back :: x.subst.take j) ++ [p] = x.front :: x.back :: x.subst.take (j + 1) ∧ z = vAt vs p ∧ (x.front :: x.back :: x.subst.take j).length ≤ 5000) := by
          obtain ⟨q1, q2⟩ := List.getElem?_eq_some_iff.1 hp
          refine ⟨by rw [List.take_succ_eq_append_getElem q1, q2]; simp, by rw [hpn.1, hz], by simp; omega⟩
        rw [hpn.1] at hc1
        rw [hsa] at c2
        have HSA : Hid (sa = some ⟨g1, o1, none⟩) := hsa
        have hpd : (pn : Int) < (dn : Int) := by omega
        clear hp hpn hz hsa hbj
        have hk0 : decide ((j : Int) < (sn : Int)) = true := by simp; omega
        have hkd : (j : Int) < (sn : Int) := by omega
        go_wp2_with fail
        refine (with_ls HLj.out p z HSN.out.2.1 HSN.out.2.2).mono ?_
        rintro e w5 ⟨lo5, m5, lc5, rfl, hls5, _⟩
        have HN : Hid (LS w2 vs (x.front :: x.back :: x.subst.take (j + 1)) (.slice lo5 m5 lc5) w5) := by rw [← HSN.out.1]; exact hls5
        clear hls5 HLj HSN c2 hc1 hcv
        go_wp2
        go_roundg (gk - 1)
        case measure => omega
        case rel => exact ⟨j + 1, by omega, by go_num, HN.out⟩
      · have hk0 : decide ((j : Int) < (sn : Int)) = false := by simp; omega
        have HLz : Hid (LS w2 vs (x.front :: x.back :: (x.subst ++ costsS (x.states.take 0))) (.slice lo m lc) wr) := by
          show LS _ _ _ _ _
          have := HLj.out
          rw [List.take_of_length_le (by rw [HL.out.2.1]; omega)] at this
          simpa [costsS] using this
        have c10 : wr.cell? ⟨w.heap.size, 10, none⟩ = some (.slice ta tn tc) := blk (HD.out wr hbj).1.box rfl
        clear HLj hbj
        go_wp2
        clear c2 c10
        go_loopg [7, 9, 10, 11] tn (fun q lv iv _ _ wr => ∃ (i : Nat), i + q = tn ∧ iv = .int .i64 i ∧ Hid (LS w2 vs (x.front :: x.back :: (x.subst ++ costsS (x.states.take i))) lv wr))
        case atStart => exact ⟨0, by omega, rfl, HLz.out⟩
        case round =>
          clear HLz hk0 hlt hjq
          obtain ⟨i, hiq, rfl, HLi⟩ := hrel
          obtain ⟨wo, rfl⟩ : ∃ wo, wo = wr := ⟨_, rfl⟩
          obtain ⟨gO, rfl⟩ : ∃ gO, gO = gk := ⟨_, rfl⟩
          obtain ⟨lo2, m2, lc2, hlv⟩ := ls_val HLi.out
          have hbi := ls_low HLi.out
          have c10 : wo.cell? ⟨w.heap.size, 10, none⟩ = some (.slice ta tn tc) := blk (HD.out wo hbi).1.box rfl
          by_cases hlt : i < tn
          · obtain ⟨s, hs⟩ : ∃ s, x.states[i]? = some s := ⟨x.states[i]'(by rw [HL.out.2.2]; exact hlt), List.getElem?_eq_getElem _⟩
            obtain ⟨g1, o1, hta, hcs⟩ := (HD.out w2 (Below.refl _ _)).2.2.states.cells (by omega)
            obtain ⟨ea, en, ec, k1, k2, k3⟩ := hcs i s hs
            have hen : en ≤ 100 := by rw [← k3.length]; exact right_edges HOK.out s (List.mem_of_getElem? hs)
            have HTA : Hid (ta = some ⟨g1, o1, none⟩ ∧ x.states[i]? = some s ∧ s.2.length = en) := ⟨hta, hs, k3.length⟩
            have HF : Hid (∀ W, Below w2.heap.size w2 W → W.cell? ⟨w.heap.size, 10, none⟩ = some (.slice (some ⟨g1, o1, none⟩) tn tc) ∧ W.cell? ⟨g1, o1 + i * 2 + 1, none⟩ = some (.slice ea en ec) ∧ PcsAt W ea en s.2) := fun W hW => by
              refine ⟨by rw [← hta]; exact blk (HD.out W hW).1.box rfl, ?_, k3.below hW⟩
              rw [hW.cell (World.block_lt_of_cell? w2 _ k2)]; exact k2
            have HP0 : Hid ((x.front :: x.back :: (x.subst ++ costsS (x.states.take i))).length ≤ 2000) := by
              have h1 := HPl.out.1
              have h2 : (x.front :: x.back :: (x.subst ++ costsS (x.states.take i))).length ≤ (placesL x).length := by
                rw [placesL]
                simp only [List.length_cons, List.length_append]
                have h3 : (costsS x.states).length = (costsS (x.states.take i)).length + (costsS (x.states.drop i)).length := by
                  rw [← List.length_append]
                  congr 1
                  rw [costsS, costsS, costsS, ← List.flatMap_append, List.take_append_drop]
                omega
              show _ ≤ _
              omega
            rw [hta] at c10
            clear hs hcs k1 k2 k3 hta hbi
            subst hlv
            have hk0 : decide ((i : Int) < (tn : Int)) = true := by simp; omega
            have hkd : (i : Int) < (tn : Int) := by omega
            have HLi0 : Hid (LS w2 vs ((x.front :: x.back :: (x.subst ++ costsS (x.states.take i))) ++ costsL (s.2.take 0)) (.slice lo2 m2 lc2) wo) := by
              show LS _ _ _ _ _
              simpa [costsL] using HLi.out
            clear HLi
            go_wp2
            clear c10
            go_loopg [7, 10, 11] en (fun q lv iv _ wr => ∃ (k : Nat), k + q = en ∧ iv = .int .i64 k ∧ Hid (LS w2 vs ((x.front :: x.back :: (x.subst ++ costsS (x.states.take i))) ++ costsL (s.2.take k)) lv wr))
            case atStart => exact ⟨0, by omega, rfl, HLi0.out⟩
            case round =>
              clear HLi0
              obtain ⟨k, hkq, rfl, HLk⟩ := hrel
              obtain ⟨lo3, m3, lc3, rfl⟩ := ls_val HLk.out
              have hbk := ls_low HLk.out
              obtain ⟨l1, l2, l3⟩ := HF.out wr hbk
              by_cases hkl : k < en
              · obtain ⟨ed, hed⟩ : ∃ ed, s.2[k]? = some ed := ⟨s.2[k]'(by rw [HTA.out.2.2]; exact hkl), List.getElem?_eq_getElem _⟩
                obtain ⟨y1, q1, hea, hce⟩ := l3.cells (by omega)
                obtain ⟨d1, d2⟩ := hce k ed hed
                rw [hea] at l2
                have HSN : Hid (costsL (s.2.take (k + 1)) = costsL (s.2.take k) ++ (if ed.2 = -1 then [] else [ed.2]) ∧ ed ∈ s.2 ∧ s ∈ x.states) := by
                  obtain ⟨h1, h2⟩ := List.getElem?_eq_some_iff.1 hed
                  refine ⟨by rw [List.take_succ_eq_append_getElem h1, h2, costsL_snoc], List.mem_of_getElem? hed, List.mem_of_getElem? HTA.out.2.1⟩
                have hrc := right_costs HOK.out s HSN.out.2.2 ed HSN.out.2.1
                rw [HL.out.1] at hrc
                have HPk : Hid (((x.front :: x.back :: (x.subst ++ costsS (x.states.take i))) ++ costsL (s.2.take k)).length ≤ 5000) := by
                  show _ ≤ _
                  have h1 := HP0.out
                  have h2 : (costsL (s.2.take k)).length ≤ 100 := by
                    unfold costsL
                    refine Nat.le_trans (List.length_filter_le _ _) ?_
                    have := HTA.out.2.2
                    simp; omega
                  rw [List.length_append]
                  omega
                clear hea hce hed l3
                have hz0 : decide ((k : Int) < (en : Int)) = true := by simp; omega
                have hzd : (k : Int) < (en : Int) := by omega
                by_cases hc : ed.2 = -1
                · have HE : Hid (costsL (s.2.take (k + 1)) = costsL (s.2.take k)) := by
                    have := HSN.out.1
                    rw [if_pos hc, List.append_nil] at this
                    exact this
                  rw [hc] at d2
                  clear hc hrc HSN hbk
                  go_wp2
                  go_roundg (gk - 1)
                  case measure => omega
                  case rel => exact ⟨k + 1, by omega, by go_num, by show LS _ _ _ _ _; rw [HE.out]; exact HLk.out⟩
                · obtain ⟨pn, hpn⟩ : ∃ pn : Nat, ed.2 = (pn : Int) ∧ pn < dn := ⟨ed.2.toNat, by omega, by omega⟩
                  have HE : Hid (costsL (s.2.take (k + 1)) = costsL (s.2.take k) ++ [ed.2]) := by
                    have := HSN.out.1
                    rw [if_neg hc] at this
                    exact this
                  obtain ⟨z, hz⟩ : ∃ z, vAt vs (pn : Int) = z := ⟨_, rfl⟩
                  have hcv := (HD.out wr hbk).2.1 pn hpn.2
                  rw [hz] at hcv
                  have HZ : Hid (z = vAt vs ed.2) := by show _ = _; rw [hpn.1, hz]
                  rw [hpn.1] at d2
                  have hpd : (pn : Int) < (dn : Int) := by omega
                  clear hc hrc hpn hz HSN hbk
                  go_wp2_with fail
                  refine (with_ls HLk.out ed.2 z HZ.out HPk.out).mono ?_
                  rintro e w5 ⟨lo5, m5, lc5, rfl, hls5, _⟩
                  have HN : Hid (LS w2 vs ((x.front :: x.back :: (x.subst ++ costsS (x.states.take i))) ++ costsL (s.2.take (k + 1))) (.slice lo5 m5 lc5) w5) := by
                    rw [HE.out, ← List.append_assoc]; exact hls5
                  clear hls5 HLk l1 l2 d1 d2 hcv HE HZ
                  go_wp2
                  go_roundg (gk - 1)
                  case measure => omega
                  case rel => exact ⟨k + 1, by omega, by go_num, HN.out⟩
              · have hz0 : decide ((k : Int) < (en : Int)) = false := by simp; omega
                have HN : Hid (LS w2 vs (x.front :: x.back :: (x.subst ++ costsS (x.states.take (i + 1)))) (.slice lo3 m3 lc3) wr) := by
                  have h1 := HLk.out
                  rw [show s.2.take k = s.2 from List.take_of_length_le (by rw [HTA.out.2.2]; omega)] at h1
                  obtain ⟨h2, h3⟩ := List.getElem?_eq_some_iff.1 HTA.out.2.1
                  rw [List.take_succ_eq_append_getElem h2, h3]
                  simpa [costsS, List.append_assoc, Hid] using h1
                clear HLk l3 hbk
                go_wp2
                go_roundg (gO - 1)
                case measure => omega
                case rel => exact ⟨i + 1, by omega, by go_num, HN.out⟩
          · have hk0 : decide ((i : Int) < (tn : Int)) = false := by simp; omega
            obtain ⟨K, hK⟩ : ∃ K, wl vs (placesL x) = K := ⟨_, rfl⟩
            obtain ⟨F, hF⟩ : ∃ F : Int → Int, F = fun p => idxB K (vAt vs p) := ⟨_, rfl⟩
            obtain ⟨kn, hkn⟩ : ∃ kn, K.length = kn := ⟨_, rfl⟩
            have HK : Hid (IntA wo lo2 kn K ∧ K.length = kn ∧ kn ≤ 2000 ∧ m2 = kn ∧ Rising K ∧ (∀ p ∈ placesL x, vAt vs p ∈ K) ∧ (∀ p, F p = idxB K (vAt vs p)) ∧ foldB x vs = { rnR F x with defs := K.map numD }) := by
              have h1 := HLi.out
              rw [List.take_of_length_le (by rw [HL.out.2.2]; omega)] at h1
              rw [hlv] at h1
              have h2 : LS w2 vs (placesL x) (.slice lo2 m2 lc2) wo := h1
              obtain ⟨_, _, _, e, hm, hia, _⟩ := h2
              cases e
              have hKk : K = keptB x vs := by rw [← hK]; rfl
              refine ⟨by rw [← hkn, ← hK, ← hm]; exact hia, hkn, ?_, ?_, by rw [hKk]; exact (kept_rising x vs).1, fun p hp => by rw [hKk]; exact nums_mem hp, fun p => by rw [hF], by rw [hF, hKk]; rfl⟩
              · rw [← hkn, hKk]; exact Nat.le_trans (kept_len x vs) HPl.out.1
              · rw [← hkn, ← hK]; exact hm
            subst hlv
            clear HLi hK hF hkn
            obtain ⟨rfl⟩ : m2 = kn := HK.out.2.2.2.1
            have hkn2 : m2 ≤ 2000 := HK.out.2.2.1
            have HKW : Hid (∀ W, Below wo.heap.size wo W → IntA W lo2 m2 K ∧ Below w2.heap.size w2 W) := fun W hW => ⟨HK.out.1.below hW, hbi.trans (hW.mono hbi.size)⟩
            obtain ⟨kg, ko, hlo2⟩ : ∃ kg ko, lo2 = some ⟨kg, ko, none⟩ := by
              have hpos : 0 < K.length := List.length_pos_iff.2 (fun e => by have := HK.out.2.2.2.2.2.1 x.front (by simp [placesL]); rw [e] at this; simp at this)
              obtain ⟨g, o, e, _⟩ := HK.out.1.isI 0 K[0] (List.getElem?_eq_getElem hpos)
              exact ⟨g, o, e⟩
            subst hlo2
            have c0 : wo.cell? ⟨w.heap.size, 0, none⟩ = some (.int .i64 x.letters) := blk ((HD.out wo hbi).1.box) rfl
            have c1 : wo.cell? ⟨w.heap.size, 1, none⟩ = some (.slice da dn dc) := blk ((HD.out wo hbi).1.box) rfl
            have c2 : wo.cell? ⟨w.heap.size, 2, none⟩ = some (.slice sa sn sc) := blk ((HD.out wo hbi).1.box) rfl
            have c3 : wo.cell? ⟨w.heap.size, 3, none⟩ = some (.int .i64 x.beg) := blk ((HD.out wo hbi).1.box) rfl
            have c4 : wo.cell? ⟨w.heap.size, 4, none⟩ = some (.int .i64 x.fin) := blk ((HD.out wo hbi).1.box) rfl
            have c5 : wo.cell? ⟨w.heap.size, 5, none⟩ = some (.int .i64 x.front) := blk ((HD.out wo hbi).1.box) rfl
            have c6 : wo.cell? ⟨w.heap.size, 6, none⟩ = some (.int .i64 x.back) := blk ((HD.out wo hbi).1.box) rfl
            have c7 : wo.cell? ⟨w.heap.size, 7, none⟩ = some (.bool x.banded) := blk ((HD.out wo hbi).1.box) rfl
            have c8 : wo.cell? ⟨w.heap.size, 8, none⟩ = some (.int .i64 x.lo) := blk ((HD.out wo hbi).1.box) rfl
            have c9 : wo.cell? ⟨w.heap.size, 9, none⟩ = some (.int .i64 x.hi) := blk ((HD.out wo hbi).1.box) rfl
            have c10 : wo.cell? ⟨w.heap.size, 10, none⟩ = some (.slice ta tn tc) := blk ((HD.out wo hbi).1.box) rfl
            go_wp2_with fail
            refine (HCp.out wo HOK.out (HD.out wo hbi).1.low).mono ?_
            rintro e w6 ⟨oda, odc, osa, osc, ota, otc, osl, rfl, hb6, hcp⟩
            go_upto_region 21 with (fail)
            obtain ⟨w7, hw7⟩ : ∃ w7, w7 = w6.alloc (.cells #[.int .i64 x.letters, .slice oda x.defs.length odc, .slice osa x.subst.length osc, .int .i64 x.beg, .int .i64 x.fin, .int .i64 x.front, .int .i64 x.back, .bool x.banded, .int .i64 x.lo, .int .i64 x.hi, .slice ota x.states.length otc] 26) := ⟨_, rfl⟩
            rw [← hw7]
            have HFO : Hid (FO wo w6.heap.size x oda odc osa osc ota otc osl w7) := by
              have h0 : Below w6.heap.size w6 w7 := by rw [hw7]; exact (Below.refl _ _).alloc (Nat.le_refl _) _
              exact ⟨hb6.trans (h0.mono hb6.size), hb6.size, by rw [hw7]; exact heap_alloc_new w6 _, hcp.below h0⟩
            clear hb6 hcp hw7 HCp
            clear c0 c1 c2 c3 c4 c5 c6 c7 c8 c9 c10
            have o1 : w7.cell? ⟨w6.heap.size, 1, none⟩ = some (.slice oda x.defs.length odc) := blk HFO.out.out rfl
            have of : ∀ i, w7.frozen? ⟨w6.heap.size, i, none⟩ = false := fun i => frozen_of_row w7 _ i _ _ HFO.out.out
            go_upto_region 22 with (fail)
            obtain ⟨w8, hw8⟩ : ∃ w8, w8 = w7.setCell ⟨w6.heap.size, 1, none⟩ (.slice none 0 0) := ⟨_, rfl⟩
            rw [← hw8]
            have HF8 : Hid (∃ dd dcc, FO wo w6.heap.size { x with defs := (K.take 0).map numD } dd dcc osa osc ota otc osl w8) := by
              rw [hw8]
              exact ⟨none, 0, HFO.out.defs' (w' := w7) (r := none) (D := []) ⟨rfl, rfl, rfl, Nat.le_refl _, fun _ _ _ => rfl⟩ (fun k hk => by cases hk) (none_row _ _ _ _)⟩
            clear hw8 HFO o1 of
            go_wp2
            go_loopg [13] m2 (fun q iv wr => ∃ (i : Nat), i + q = m2 ∧ iv = .int .i64 i ∧ Hid (∃ dd dcc, FO wo w6.heap.size { x with defs := (K.take i).map numD } dd dcc osa osc ota otc osl wr))
            case atStart => exact ⟨0, by omega, rfl, HF8.out⟩
            case round =>
              clear HF8 hk0 hlt hiq
              obtain ⟨i, hiq, rfl, HQ⟩ := hrel
              by_cases hlt : i < m2
              · obtain ⟨dd, dcc, hfo⟩ := HQ.out
                obtain ⟨z, hz⟩ : ∃ z, K[i]? = some z := ⟨K[i]'(by rw [HK.out.2.1]; exact hlt), List.getElem?_eq_getElem _⟩
                have hDl : ((K.take i).map numD).length = i := by have := HK.out.2.1; simp; omega
                have HQ1 : Hid (FO wo w6.heap.size { x with defs := (K.take i).map numD } dd dcc osa osc ota otc osl wr ∧ K[i]? = some z ∧ ((K.take i).map numD).length = i) := ⟨hfo, hz, hDl⟩
                have HS : Hid (∀ W, W.heap[w6.heap.size]? = wr.heap[w6.heap.size]? → Below wo.heap.size wo W → W.cell? ⟨w6.heap.size, 1, none⟩ = some (.slice dd i dcc) ∧ W.cell? ⟨kg, ko + i, none⟩ = some (.int .i64 z)) := fun W h1 h2 => by
                  have h3 := hfo.out
                  rw [← h1] at h3
                  refine ⟨?_, ?_⟩
                  · have := blk (i := 1) h3 rfl
                    simp only at this
                    rw [hDl] at this
                    exact this
                  · obtain ⟨g, o, e, hc⟩ := (HKW.out W h2).1.isI i z hz
                    cases e
                    exact hc
                have hs0 := HS.out wr.drew rfl hfo.low.drew
                have hsA : ∀ o, (wr.alloc o).drew.heap[w6.heap.size]? = wr.heap[w6.heap.size]? := fun o => ((Below.refl wr.heap.size wr).alloc (Nat.le_refl _) o).block _ (lt_block hfo.out)
                have HSA : Hid (∀ o, (wr.alloc o).drew.cell? ⟨w6.heap.size, 1, none⟩ = some (.slice dd i dcc) ∧ (wr.alloc o).drew.cell? ⟨kg, ko + i, none⟩ = some (.int .i64 z)) := fun o => HS.out _ (hsA o) ((hfo.low.alloc hfo.low.size o).drew)
                have hwl : wo.heap.size ≤ wr.heap.size := hfo.low.size
                clear hfo hz hDl HQ hsA
                have hk0 : decide ((i : Int) < (m2 : Int)) = true := by simp; omega
                have hkd : (i : Int) < (m2 : Int) := by omega
                go_wp2_with fail
                refine wp_region_Y (fun j => [8, 10].contains j) (fun W : World => W.cell? ⟨w6.heap.size, 1, none⟩ = some (.slice dd i dcc) ∧ W.cell? ⟨kg, ko + i, none⟩ = some (.int .i64 z)) (by kernel_rfl) ?_
                refine wpAnyY_takeD (i := 0) 104 (v := .pointer (some ⟨w6.heap.size, 1, none⟩)) rfl rfl (by kernel_rfl) (by kernel_rfl) (late_of (by kernel_rfl)) (by kernel_rfl) (by kernel_rfl) (fun _ _ _ h => h) hs0 (Or.inl ⟨by rfl, by (intro W hW; obtain ⟨s0, s1⟩ := hW; go_simp)⟩) ?_
                simp only [Act.put, List.setIfInBounds_toArray, List.set_cons_succ, List.set_cons_zero]
                refine wpAnyY_takeD (i := 1) 105 (v := .slice dd i dcc) rfl rfl (by kernel_rfl) (by kernel_rfl) (late_of (by kernel_rfl)) (by kernel_rfl) (by kernel_rfl) (fun _ _ _ h => h) hs0 (Or.inl ⟨by rfl, by (intro W hW; obtain ⟨s0, s1⟩ := hW; go_simp)⟩) ?_
                simp only [Act.put, List.setIfInBounds_toArray, List.set_cons_succ, List.set_cons_zero]
                refine wpAnyY_takeD (i := 2) 106 (v := .slice (some ⟨kg, ko, none⟩) m2 lc2) rfl rfl (by kernel_rfl) (by kernel_rfl) (late_of (by kernel_rfl)) (by kernel_rfl) (by kernel_rfl) (fun _ _ _ h => h) hs0 (Or.inl ⟨by rfl, by (intro W hW; obtain ⟨s0, s1⟩ := hW; go_simp)⟩) ?_
                simp only [Act.put, List.setIfInBounds_toArray, List.set_cons_succ, List.set_cons_zero]
                refine wpAnyY_takeD (i := 3) 107 (v := .int .i64 (i : Int)) rfl rfl (by kernel_rfl) (by kernel_rfl) (late_of (by kernel_rfl)) (by kernel_rfl) (by kernel_rfl) (fun _ _ _ h => h) hs0 (Or.inl ⟨by rfl, by (intro W hW; obtain ⟨s0, s1⟩ := hW; go_simp)⟩) ?_
                simp only [Act.put, List.setIfInBounds_toArray, List.set_cons_succ, List.set_cons_zero]
                refine wpAnyY_takeD (i := 4) 108 (v := .pointer (some ⟨kg, ko + i, none⟩)) rfl rfl (by kernel_rfl) (by kernel_rfl) (late_of (by kernel_rfl)) (by kernel_rfl) (by kernel_rfl) (fun _ _ _ h => h) hs0 (Or.inl ⟨by rfl, by (intro W hW; obtain ⟨s0, s1⟩ := hW; go_simp)⟩) ?_
                simp only [Act.put, List.setIfInBounds_toArray, List.set_cons_succ, List.set_cons_zero]
                refine wpAnyY_takeD (i := 5) 109 (v := .int .i64 z) rfl rfl (by kernel_rfl) (by kernel_rfl) (late_of (by kernel_rfl)) (by kernel_rfl) (by kernel_rfl) (fun _ _ _ h => h) hs0 (Or.inl ⟨by rfl, by (intro W hW; obtain ⟨s0, s1⟩ := hW; go_simp)⟩) ?_
                simp only [Act.put, List.setIfInBounds_toArray, List.set_cons_succ, List.set_cons_zero]
                refine wpAnyY_takeD (i := 6) 110 (v := .agg #[.int .i64 1, .int .i64 z, .int .i64 0, .int .i64 0]) rfl rfl (by kernel_rfl) (by kernel_rfl) (late_of (by kernel_rfl)) (by kernel_rfl) (by kernel_rfl) (fun _ _ _ h => h) hs0 (Or.inl ⟨by rfl, by (intro W hW; obtain ⟨s0, s1⟩ := hW; go_simp)⟩) ?_
                simp only [Act.put, List.setIfInBounds_toArray, List.set_cons_succ, List.set_cons_zero]
                refine wpAnyY_one (i := 7) rfl (by kernel_rfl) (fun Kc hKc => ?_)
                go_simp
                refine hKc.out _ _ (fun _ _ => HSA.out _) ?_
                clear hKc Kc
                refine wpAnyY_one (i := 8) rfl (by kernel_rfl) (fun Kc hKc => ?_)
                have HDo : Hid ((wr.alloc (.cells #[.int .i64 1, .int .i64 z, .int .i64 0, .int .i64 0] 36)).drew.ownsRow wo.heap.size 36 4 (.slice dd i dcc) i (dfRow ((K.take i).map numD))) := by
                  have h1 := HQ1.out.1.cp.defs
                  simp only at h1
                  rw [HQ1.out.2.2] at h1
                  exact owned_below h1 (((Below.refl _ _).alloc (Nat.le_refl _) _).drew)
                refine step_append_opt rfl (.tmp 105) (.tmp 111) 22 rfl wo.heap.size 36 i36 _ 4 32 Try.underlying22 hi36 hz360 hz361 hz362 rfl (by decide) (.slice dd i dcc) i _ (by simp [Act.eval]) HDo.out (some ⟨wr.heap.size, 0, none⟩) 1 1 (dfCells (numD z)) (by simp [Act.eval]) (df_new wr z) (by unfold maxLen; omega) (by omega) (by have : wr.heap.size ≤ (wr.alloc (.cells #[.int .i64 1, .int .i64 z, .int .i64 0, .int .i64 0] 36)).drew.heap.size := (((Below.refl wr.heap.size wr).alloc (Nat.le_refl _) _).drew).size; omega) ?_
                intro v' w12 ho hg
                obtain ⟨dd2, dcc2, rfl⟩ := owned_shape ho
                have HM : Hid ((∃ dd dcc, FO wo w6.heap.size { x with defs := (K.take (i + 1)).map numD } dd dcc osa osc ota otc osl (w12.setCell ⟨w6.heap.size, 1, none⟩ (.slice dd2 (i + 1) dcc2))) ∧ w12.cell? ⟨w6.heap.size, 1, none⟩ = some (.slice dd i dcc) ∧ w12.frozen? ⟨w6.heap.size, 1, none⟩ = false) := by
                  have hgw : wr.grownBy w12 (Value.slice dd i dcc).ownBlock := grown_trans (grown_below (((Below.refl _ _).alloc (Nat.le_refl _) _).drew)) hg
                  have h1 := HQ1.out.1.cp.defs
                  simp only at h1
                  rw [HQ1.out.2.2] at h1
                  have hrr : ∀ k, (Value.slice dd i dcc).ownBlock = some k → wo.heap.size ≤ k ∧ (k < wr.heap.size → ∃ cs, wr.heap[k]? = some (.cells cs 36 (0, 0))) := fun k hk => by
                    rcases h1.2 with ⟨hv, _⟩ | ⟨g', cap', cur, hv, hb', hg', _⟩
                    · rw [hv] at hk; cases hk
                    · rw [hv] at hk; simp [Value.ownBlock] at hk; subst hk; exact ⟨hb', fun _ => ⟨_, hg'⟩⟩
                  have hob : w12.heap[w6.heap.size]? = wr.heap[w6.heap.size]? := hgw.block _ (lt_block HQ1.out.1.out) (fun e => by
                    obtain ⟨cs, hc⟩ := (hrr _ e.symm).2 (lt_block HQ1.out.1.out)
                    have := HQ1.out.1.out
                    rw [hc] at this; cases this)
                  obtain ⟨q1, q2⟩ := List.getElem?_eq_some_iff.1 HQ1.out.2.1
                  have hDe : (K.take (i + 1)).map numD = (K.take i).map numD ++ [numD z] := by rw [List.take_succ_eq_append_getElem q1, q2]; simp
                  have hDn : ((K.take (i + 1)).map numD).length = i + 1 := by rw [hDe, List.length_append, HQ1.out.2.2]; rfl
                  have hd : w12.ownsRow wo.heap.size 36 4 (.slice dd2 ((K.take (i + 1)).map numD).length dcc2) ((K.take (i + 1)).map numD).length (dfRow ((K.take (i + 1)).map numD)) := by
                    rw [hDn, hDe]
                    have := ho
                    simpa [dfRow] using this
                  have hf := HQ1.out.1.defs' hgw hrr hd
                  rw [hDn] at hf
                  have hb12 : w12.heap[w6.heap.size]? = _ := hob.trans HQ1.out.1.out
                  refine ⟨⟨dd2, dcc2, hf⟩, ?_, frozen_of_row w12 _ 1 _ _ hb12⟩
                  have := blk (i := 1) hb12 rfl
                  simp only at this
                  rw [HQ1.out.2.2] at this
                  exact this
                clear ho hg HDo
                refine hKc.out _ _ (fun h => absurd h (by decide)) ?_
                clear hKc Kc
                simp only [Act.put]
                have m1 := HM.out.2.1
                have m2' := HM.out.2.2
                refine wpAnyY_one (i := 9) rfl (by kernel_rfl) (fun Kc hKc => ?_)
                go_simp
                refine hKc.out _ _ (fun _ h => h) ?_
                clear hKc Kc
                refine wpAnyY_one (i := 10) rfl (by kernel_rfl) (fun Kc hKc => ?_)
                go_simp
                refine hKc.out _ _ (fun h => absurd h (by decide)) ?_
                clear hKc Kc
                refine wpAnyY_done (by kernel_rfl) ?_ _
                clear m1 m2' hs0 HS HSA
                have HN : Hid (∃ dd dcc, FO wo w6.heap.size { x with defs := (K.take (i + 1)).map numD } dd dcc osa osc ota otc osl (w12.setCell ⟨w6.heap.size, 1, none⟩ (.slice dd2 (i + 1) dcc2))) := HM.out.1
                clear HM
                go_wp2
                go_roundg (gk - 1)
                case measure => omega
                case rel => exact ⟨i + 1, by omega, by go_num, HN.out⟩
              · have hk0 : decide ((i : Int) < (m2 : Int)) = false := by simp; omega
                have HQ4 : Hid (∃ dd dcc, FO wo w6.heap.size { x with defs := K.map numD } dd dcc osa osc ota otc osl wr) := by
                  have := HQ.out
                  rw [List.take_of_length_le (by rw [HK.out.2.1]; omega)] at this
                  exact this
                clear HQ
                obtain ⟨dd, dcc, hfo⟩ := HQ4.out
                have HF4 : Hid (FO wo w6.heap.size { x with defs := K.map numD } dd dcc osa osc ota otc osl wr) := hfo
                clear hfo HQ4
                have HPO : Hid (∀ (W : World) (p z ix : Int), p ∈ placesL x → z = vAt vs p → ix = F p → Below wo.heap.size wo W → Calls Try.prog 28 #[.slice (some ⟨kg, ko, none⟩) m2 lc2, .int .i64 z] W fun e w' => e = .returned (.int .i64 ix) ∧ W = w') := fun W p z ix hp hz hx hW => by
                  rw [hx, HK.out.2.2.2.2.2.2.1 p, hz]
                  exact placeOf_calls K (some ⟨kg, ko, none⟩) m2 lc2 _ W (HKW.out W hW).1 (by omega) HK.out.2.2.2.2.1 (HK.out.2.2.2.2.2.1 p hp)
                obtain ⟨ixf, hixf⟩ : ∃ v, F x.front = v := ⟨_, rfl⟩
                obtain ⟨ixb, hixb⟩ : ∃ v, F x.back = v := ⟨_, rfl⟩
                have HIX : Hid (F x.front = ixf ∧ F x.back = ixb) := ⟨hixf, hixb⟩
                clear hixf hixb
                obtain ⟨e5, e6, ef, eb⟩ := HF5.out wr (HKW.out wr HF4.out.low).2
                have o5 : wr.cell? ⟨w6.heap.size, 5, none⟩ = some (.int .i64 x.front) := blk HF4.out.out rfl
                have of : ∀ i, wr.frozen? ⟨w6.heap.size, i, none⟩ = false := fun i => frozen_of_row wr _ i _ _ HF4.out.out
                go_wp2_with fail
                refine (HPO.out wr x.front zf ixf (by simp [placesL]) HZF.out.1 HIX.out.1.symm HF4.out.low).mono ?_
                rintro e w9 ⟨rfl, rfl⟩
                go_upto_region 27 with (fail)
                obtain ⟨w9, hw9⟩ : ∃ w9, w9 = wr.setCell ⟨w6.heap.size, 5, none⟩ (.int .i64 ixf) := ⟨_, rfl⟩
                rw [← hw9]
                have HF9 : Hid (FO wo w6.heap.size { x with defs := K.map numD, front := F x.front } dd dcc osa osc ota otc osl w9) := by
                  rw [hw9, ← HIX.out.1]
                  exact HF4.out.num (X' := { x with defs := K.map numD, front := F x.front }) rfl rfl rfl 5 _ rfl
                clear hw9 HF4 e5 e6 ef eb o5 of
                obtain ⟨e5, e6, ef, eb⟩ := HF5.out w9 (HKW.out w9 HF9.out.low).2
                have o6 : w9.cell? ⟨w6.heap.size, 6, none⟩ = some (.int .i64 x.back) := blk HF9.out.out rfl
                have of : ∀ i, w9.frozen? ⟨w6.heap.size, i, none⟩ = false := fun i => frozen_of_row w9 _ i _ _ HF9.out.out
                go_wp2_with fail
                refine (HPO.out w9 x.back zb ixb (by simp [placesL]) HZF.out.2 HIX.out.2.symm HF9.out.low).mono ?_
                rintro e w10 ⟨rfl, rfl⟩
                go_upto_region 28 with (fail)
                obtain ⟨w10, hw10⟩ : ∃ w10, w10 = w9.setCell ⟨w6.heap.size, 6, none⟩ (.int .i64 ixb) := ⟨_, rfl⟩
                rw [← hw10]
                have HF10 : Hid (FO wo w6.heap.size { x with defs := K.map numD, front := F x.front, back := F x.back, subst := parL F x.subst 0 } dd dcc osa osc ota otc osl w10) := by
                  rw [hw10, ← HIX.out.2]
                  have := HF9.out.num (X' := { x with defs := K.map numD, front := F x.front, back := F x.back }) rfl rfl rfl 6 (.int .i64 (F x.back)) rfl
                  rw [parL_zero]
                  exact this
                clear hw10 HF9 e5 e6 ef eb o6 of
                obtain ⟨osg, hosa⟩ : ∃ osg, osa = some ⟨osg, 0, none⟩ := by
                  have h1 := HF10.out.cp.subst
                  simp only [parL_len] at h1
                  obtain ⟨g, _, hv, _⟩ := owned_some h1 (by rw [HL.out.2.1]; omega)
                  injection hv with e1
                  exact ⟨g, e1⟩
                subst hosa
                have o2 : w10.cell? ⟨w6.heap.size, 2, none⟩ = some (.slice (some ⟨osg, 0, none⟩) sn osc) := by
                  have := blk (i := 2) HF10.out.out rfl
                  simp only [parL_len, HL.out.2.1] at this
                  exact this
                go_wp2
                clear o2
                go_loopg [14] sn (fun q iv wr => ∃ (i : Nat), i + q = sn ∧ iv = .int .i64 i ∧ Hid (FO wo w6.heap.size { x with defs := K.map numD, front := F x.front, back := F x.back, subst := parL F x.subst i } dd dcc (some ⟨osg, 0, none⟩) osc ota otc osl wr))
                case atStart => exact ⟨0, by omega, rfl, HF10.out⟩
                case round =>
                  clear HF10 hk0 hlt hiq
                  obtain ⟨i, hiq, rfl, HQ⟩ := hrel
                  have o2 : wr.cell? ⟨w6.heap.size, 2, none⟩ = some (.slice (some ⟨osg, 0, none⟩) sn osc) := by
                    have := blk (i := 2) HQ.out.out rfl
                    simp only [parL_len, HL.out.2.1] at this
                    exact this
                  by_cases hlt : i < sn
                  · obtain ⟨p, hp⟩ : ∃ p, x.subst[i]? = some p := ⟨x.subst[i]'(by rw [HL.out.2.1]; exact hlt), List.getElem?_eq_getElem _⟩
                    have hbw := (HKW.out wr HQ.out.low).2
                    obtain ⟨g1, o1, hsa, hc1⟩ := (HD.out wr hbw).2.2.subst.isI i p hp
                    have hpm : p ∈ placesL x := by simp [placesL, List.mem_of_getElem? hp]
                    obtain ⟨pn, hpn⟩ : ∃ pn : Nat, p = (pn : Int) ∧ pn < dn := by
                      have := HPl.out.2 p hpm
                      exact ⟨p.toNat, by omega, by omega⟩
                    obtain ⟨z, hz⟩ : ∃ z, vAt vs (pn : Int) = z := ⟨_, rfl⟩
                    have hcv := (HD.out wr hbw).2.1 pn hpn.2
                    rw [hz] at hcv
                    obtain ⟨ix, hix⟩ : ∃ v, F p = v := ⟨_, rfl⟩
                    have HE : Hid (x.subst[i]? = some p ∧ p ∈ placesL x ∧ z = vAt vs p ∧ ix = F p) := ⟨hp, hpm, by rw [hpn.1, hz], hix.symm⟩
                    have c2 : wr.cell? ⟨w.heap.size, 2, none⟩ = some (.slice sa sn sc) := blk (HD.out wr hbw).1.box rfl
                    rw [hpn.1] at hc1
                    rw [hsa] at c2
                    obtain ⟨u0, ou, fu⟩ : ∃ u, wr.cell? ⟨osg, i, none⟩ = some u ∧ wr.frozen? ⟨osg, i, none⟩ = false := by
                      have h1 := HQ.out.cp.subst
                      have h2 : i < (parL F x.subst i).length := by rw [parL_len, HL.out.2.1]; exact hlt
                      exact ⟨_, owned_cells h1 i _ (by simp only [itRow]; rw [List.getElem?_map, List.getElem?_eq_getElem h2]; rfl)⟩
                    have hpd : (pn : Int) < (dn : Int) := by omega
                    have HSd : Hid (wr.drew.cell? ⟨w6.heap.size, 2, none⟩ = some (.slice (some ⟨osg, 0, none⟩) sn osc) ∧ wr.drew.cell? ⟨w.heap.size, 2, none⟩ = some (.slice (some ⟨g1, o1, none⟩) sn sc) ∧ wr.drew.cell? ⟨g1, o1 + i, none⟩ = some (.int .i64 (pn : Int)) ∧ wr.drew.cell? ⟨vg, pn, none⟩ = some (.int .i64 z)) := ⟨o2, c2, hc1, hcv⟩
                    clear hp hpm hpn hz hix hsa hbw c2 hc1 hcv
                    have hk0 : decide ((i : Int) < (sn : Int)) = true := by simp; omega
                    have hkd : (i : Int) < (sn : Int) := by omega
                    go_wp2_with fail
                    have hs0 := HSd.out
                    refine wp_region_Y (fun j => [14].contains j) (fun W : World => W.cell? ⟨w6.heap.size, 2, none⟩ = some (.slice (some ⟨osg, 0, none⟩) sn osc) ∧ W.cell? ⟨w.heap.size, 2, none⟩ = some (.slice (some ⟨g1, o1, none⟩) sn sc) ∧ W.cell? ⟨g1, o1 + i, none⟩ = some (.int .i64 (pn : Int)) ∧ W.cell? ⟨vg, pn, none⟩ = some (.int .i64 z)) (by kernel_rfl) ?_
                    refine wpAnyY_takeD (i := 0) 137 (v := .pointer (some ⟨w6.heap.size, 2, none⟩)) rfl rfl (by kernel_rfl) (by kernel_rfl) (late_of (by kernel_rfl)) (by kernel_rfl) (by kernel_rfl) (fun _ _ _ h => h) hs0 (Or.inl ⟨by rfl, by (intro W hW; obtain ⟨s0, s1, s2, s3⟩ := hW; go_simp)⟩) ?_
                    simp only [Act.put, List.setIfInBounds_toArray, List.set_cons_succ, List.set_cons_zero]
                    refine wpAnyY_takeD (i := 1) 138 (v := .slice (some ⟨osg, 0, none⟩) sn osc) rfl rfl (by kernel_rfl) (by kernel_rfl) (late_of (by kernel_rfl)) (by kernel_rfl) (by kernel_rfl) (fun _ _ _ h => h) hs0 (Or.inl ⟨by rfl, by (intro W hW; obtain ⟨s0, s1, s2, s3⟩ := hW; go_simp)⟩) ?_
                    simp only [Act.put, List.setIfInBounds_toArray, List.set_cons_succ, List.set_cons_zero]
                    refine wpAnyY_takeD (i := 2) 139 (v := .int .i64 (i : Int)) rfl rfl (by kernel_rfl) (by kernel_rfl) (late_of (by kernel_rfl)) (by kernel_rfl) (by kernel_rfl) (fun _ _ _ h => h) hs0 (Or.inl ⟨by rfl, by (intro W hW; obtain ⟨s0, s1, s2, s3⟩ := hW; go_simp)⟩) ?_
                    simp only [Act.put, List.setIfInBounds_toArray, List.set_cons_succ, List.set_cons_zero]
                    refine wpAnyY_takeD (i := 3) 140 (v := .slice (some ⟨kg, ko, none⟩) m2 lc2) rfl rfl (by kernel_rfl) (by kernel_rfl) (late_of (by kernel_rfl)) (by kernel_rfl) (by kernel_rfl) (fun _ _ _ h => h) hs0 (Or.inl ⟨by rfl, by (intro W hW; obtain ⟨s0, s1, s2, s3⟩ := hW; go_simp)⟩) ?_
                    simp only [Act.put, List.setIfInBounds_toArray, List.set_cons_succ, List.set_cons_zero]
                    refine wpAnyY_takeD (i := 4) 141 (v := .slice (some ⟨vg, 0, none⟩) dn vc) rfl rfl (by kernel_rfl) (by kernel_rfl) (late_of (by kernel_rfl)) (by kernel_rfl) (by kernel_rfl) (fun _ _ _ h => h) hs0 (Or.inl ⟨by rfl, by (intro W hW; obtain ⟨s0, s1, s2, s3⟩ := hW; go_simp)⟩) ?_
                    simp only [Act.put, List.setIfInBounds_toArray, List.set_cons_succ, List.set_cons_zero]
                    refine wpAnyY_takeD (i := 5) 142 (v := .pointer (some ⟨w.heap.size, 2, none⟩)) rfl rfl (by kernel_rfl) (by kernel_rfl) (late_of (by kernel_rfl)) (by kernel_rfl) (by kernel_rfl) (fun _ _ _ h => h) hs0 (Or.inl ⟨by rfl, by (intro W hW; obtain ⟨s0, s1, s2, s3⟩ := hW; go_simp)⟩) ?_
                    simp only [Act.put, List.setIfInBounds_toArray, List.set_cons_succ, List.set_cons_zero]
                    refine wpAnyY_takeD (i := 6) 143 (v := .slice (some ⟨g1, o1, none⟩) sn sc) rfl rfl (by kernel_rfl) (by kernel_rfl) (late_of (by kernel_rfl)) (by kernel_rfl) (by kernel_rfl) (fun _ _ _ h => h) hs0 (Or.inl ⟨by rfl, by (intro W hW; obtain ⟨s0, s1, s2, s3⟩ := hW; go_simp)⟩) ?_
                    simp only [Act.put, List.setIfInBounds_toArray, List.set_cons_succ, List.set_cons_zero]
                    refine wpAnyY_takeD (i := 7) 144 (v := .int .i64 (i : Int)) rfl rfl (by kernel_rfl) (by kernel_rfl) (late_of (by kernel_rfl)) (by kernel_rfl) (by kernel_rfl) (fun _ _ _ h => h) hs0 (Or.inl ⟨by rfl, by (intro W hW; obtain ⟨s0, s1, s2, s3⟩ := hW; go_simp)⟩) ?_
                    simp only [Act.put, List.setIfInBounds_toArray, List.set_cons_succ, List.set_cons_zero]
                    refine wpAnyY_takeD (i := 8) 145 (v := .pointer (some ⟨g1, o1 + i, none⟩)) rfl rfl (by kernel_rfl) (by kernel_rfl) (late_of (by kernel_rfl)) (by kernel_rfl) (by kernel_rfl) (fun _ _ _ h => h) hs0 (Or.inl ⟨by rfl, by (intro W hW; obtain ⟨s0, s1, s2, s3⟩ := hW; go_simp)⟩) ?_
                    simp only [Act.put, List.setIfInBounds_toArray, List.set_cons_succ, List.set_cons_zero]
                    refine wpAnyY_takeD (i := 9) 146 (v := .int .i64 (pn : Int)) rfl rfl (by kernel_rfl) (by kernel_rfl) (late_of (by kernel_rfl)) (by kernel_rfl) (by kernel_rfl) (fun _ _ _ h => h) hs0 (Or.inl ⟨by rfl, by (intro W hW; obtain ⟨s0, s1, s2, s3⟩ := hW; go_simp)⟩) ?_
                    simp only [Act.put, List.setIfInBounds_toArray, List.set_cons_succ, List.set_cons_zero]
                    refine wpAnyY_takeD (i := 10) 147 (v := .pointer (some ⟨vg, pn, none⟩)) rfl rfl (by kernel_rfl) (by kernel_rfl) (late_of (by kernel_rfl)) (by kernel_rfl) (by kernel_rfl) (fun _ _ _ h => h) hs0 (Or.inl ⟨by rfl, by (intro W hW; obtain ⟨s0, s1, s2, s3⟩ := hW; go_simp)⟩) ?_
                    simp only [Act.put, List.setIfInBounds_toArray, List.set_cons_succ, List.set_cons_zero]
                    refine wpAnyY_takeD (i := 11) 148 (v := .int .i64 z) rfl rfl (by kernel_rfl) (by kernel_rfl) (late_of (by kernel_rfl)) (by kernel_rfl) (by kernel_rfl) (fun _ _ _ h => h) hs0 (Or.inl ⟨by rfl, by (intro W hW; obtain ⟨s0, s1, s2, s3⟩ := hW; go_simp)⟩) ?_
                    simp only [Act.put, List.setIfInBounds_toArray, List.set_cons_succ, List.set_cons_zero]
                    refine wpAnyY_one (i := 12) rfl (by kernel_rfl) (fun Kc hKc => ?_)
                    refine step_fn rfl 28 _ _ rfl Try.f28 Try.func28 (by kernel_rfl) (by kernel_rfl) #[.slice (some ⟨kg, ko, none⟩) m2 lc2, .int .i64 z] (by simp [Act.eval]) (HPO.out wr.drew p z ix HE.out.2.1 HE.out.2.2.1 HE.out.2.2.2 HQ.out.low.drew) ?_
                    rintro e w11 ⟨rfl, rfl⟩
                    refine ⟨_, rfl, hKc.out _ _ (fun _ h => h) ?_⟩
                    clear hKc Kc
                    simp only [Act.put]
                    refine wpAnyY_one (i := 13) rfl (by kernel_rfl) (fun Kc hKc => ?_)
                    go_simp
                    refine hKc.out _ _ (fun _ h => h) ?_
                    clear hKc Kc
                    refine wpAnyY_one (i := 14) rfl (by kernel_rfl) (fun Kc hKc => ?_)
                    go_simp
                    refine hKc.out _ _ (fun h => absurd h (by decide)) ?_
                    clear hKc Kc
                    refine wpAnyY_done (by kernel_rfl) ?_ _
                    have HN : Hid (FO wo w6.heap.size { x with defs := K.map numD, front := F x.front, back := F x.back, subst := parL F x.subst (i + 1) } dd dcc (some ⟨osg, 0, none⟩) osc ota otc osl (wr.setCell ⟨osg, i, none⟩ (.int .i64 ix)).drew) := by
                      have h1 := HQ.out.sub i ix (by show i < (parL F x.subst i).length; rw [parL_len, HL.out.2.1]; exact hlt)
                      have h2 : (parL F x.subst i).set i ix = parL F x.subst (i + 1) := by rw [HE.out.2.2.2]; exact parL_set F x.subst i HE.out.1
                      simp only at h1
                      rw [h2] at h1
                      exact h1.heap rfl h1.low.drew
                    clear HQ HE hs0 HSd o2 ou fu
                    go_wp2
                    go_roundg (gk - 1)
                    case measure => omega
                    case rel => exact ⟨i + 1, by omega, by go_num, HN.out⟩
                  · have hk0 : decide ((i : Int) < (sn : Int)) = false := by simp; omega
                    obtain ⟨G, hG⟩ : ∃ G : St → St, G = fun s => (s.1, s.2.map (rnE F)) := ⟨_, rfl⟩
                    have HG : Hid (G = fun s => (s.1, s.2.map (rnE F))) := hG
                    clear hG
                    have HS0 : Hid (FO wo w6.heap.size { x with defs := K.map numD, front := F x.front, back := F x.back, subst := x.subst.map F, states := parL G x.states 0 } dd dcc (some ⟨osg, 0, none⟩) osc ota otc osl wr) := by
                      have := HQ.out
                      rw [parL_all F x.subst (by rw [HL.out.2.1]; omega)] at this
                      rw [parL_zero]
                      exact this
                    have o10 : wr.cell? ⟨w6.heap.size, 10, none⟩ = some (.slice ota tn otc) := by
                      have := blk (i := 10) HS0.out.out rfl
                      simp only [parL_len, HL.out.2.2] at this
                      exact this
                    clear HQ
                    go_wp2
                    clear o10 o2
                    go_loopg [15, 16, 17] tn (fun q iv _ _ wr => ∃ (i : Nat), i + q = tn ∧ iv = .int .i64 i ∧ Hid (FO wo w6.heap.size { x with defs := K.map numD, front := F x.front, back := F x.back, subst := x.subst.map F, states := parL G x.states i } dd dcc (some ⟨osg, 0, none⟩) osc ota otc osl wr))
                    case atStart => exact ⟨0, by omega, rfl, HS0.out⟩
                    case round =>
                      clear HS0 hk0 hlt hiq
                      obtain ⟨i, hiq, rfl, HQ⟩ := hrel
                      obtain ⟨wp, rfl⟩ : ∃ wp, wp = wr := ⟨_, rfl⟩
                      obtain ⟨gP, rfl⟩ : ∃ gP, gP = gk := ⟨_, rfl⟩
                      have o10 : wp.cell? ⟨w6.heap.size, 10, none⟩ = some (.slice ota tn otc) := by
                        have := blk (i := 10) HQ.out.out rfl
                        simp only [parL_len, HL.out.2.2] at this
                        exact this
                      by_cases hlt : i < tn
                      · obtain ⟨s, hs⟩ : ∃ s, x.states[i]? = some s := ⟨x.states[i]'(by rw [HL.out.2.2]; exact hlt), List.getElem?_eq_getElem _⟩
                        have hgs : (parL G x.states i)[i]? = some s := parL_get G x.states i hs
                        obtain ⟨otg, hota⟩ : ∃ otg, ota = some ⟨otg, 0, none⟩ := by
                          have h1 := HQ.out.cp.states
                          simp only [parL_len] at h1
                          obtain ⟨g, _, hv, _⟩ := owned_some h1 (by rw [HL.out.2.2]; omega)
                          injection hv with e1
                          exact ⟨g, e1⟩
                        obtain ⟨⟨kd, ea, en, ec⟩, hr⟩ : ∃ r, osl[i]? = some r := ⟨osl[i]'(by have := HQ.out.cp.rows.1; simp only [parL_len] at this; rw [this, HL.out.2.2]; exact hlt), List.getElem?_eq_getElem _⟩
                        have hen : en = s.2.length := (HQ.out.cp.rows.2 i _ s hr hgs).2.1
                        have hen1 : en ≤ 100 := by rw [hen]; exact right_edges HOK.out s (List.mem_of_getElem? hs)
                        have HT : Hid (ota = some ⟨otg, 0, none⟩ ∧ osl[i]? = some (kd, ea, en, ec) ∧ x.states[i]? = some s ∧ s.2.length = en ∧ i < tn) := ⟨hota, hr, hs, hen.symm, hlt⟩
                        have HQ0 : Hid (FO wo w6.heap.size { x with defs := K.map numD, front := F x.front, back := F x.back, subst := x.subst.map F, states := (parL G x.states i).set i (s.1, parL (rnE F) s.2 0) } dd dcc (some ⟨osg, 0, none⟩) osc ota otc osl wp) := by
                          rw [parL_zero, parL_at G x.states i HT.out.2.2.1]; exact HQ.out
                        rw [hota] at o10
                        clear HQ hs hgs hr hen hota
                        have hk0 : decide ((i : Int) < (tn : Int)) = true := by simp; omega
                        have hkd : (i : Int) < (tn : Int) := by omega
                        go_wp2
                        clear o10
                        go_loopg [16, 17] en (fun q iv _ wr => ∃ (k : Nat), k + q = en ∧ iv = .int .i64 k ∧ Hid (FO wo w6.heap.size { x with defs := K.map numD, front := F x.front, back := F x.back, subst := x.subst.map F, states := (parL G x.states i).set i (s.1, parL (rnE F) s.2 k) } dd dcc (some ⟨osg, 0, none⟩) osc ota otc osl wr))
                        case atStart => exact ⟨0, by omega, rfl, HQ0.out⟩
                        case round =>
                          clear HQ0
                          obtain ⟨k, hkq, rfl, HQ⟩ := hrel
                          have hgk : ((parL G x.states i).set i (s.1, parL (rnE F) s.2 k))[i]? = some (s.1, parL (rnE F) s.2 k) := List.getElem?_set_self (by rw [parL_len, HL.out.2.2]; exact HT.out.2.2.2.2)
                          have HGK : Hid (((parL G x.states i).set i (s.1, parL (rnE F) s.2 k))[i]? = some (s.1, parL (rnE F) s.2 k)) := hgk
                          clear hgk
                          have o10 : wr.cell? ⟨w6.heap.size, 10, none⟩ = some (.slice (some ⟨otg, 0, none⟩) tn otc) := by
                            have := blk (i := 10) HQ.out.out rfl
                            simp only [List.length_set, parL_len, HL.out.2.2] at this
                            rw [HT.out.1] at this
                            exact this
                          have l2 : wr.cell? ⟨otg, i * 2 + 1, none⟩ = some (.slice ea en ec) := HQ.out.st HT.out.2.1 HT.out.1
                          by_cases hkl : k < en
                          · obtain ⟨ed, hed⟩ : ∃ ed, s.2[k]? = some ed := ⟨s.2[k]'(by rw [HT.out.2.2.2.1]; exact hkl), List.getElem?_eq_getElem _⟩
                            obtain ⟨eg, hea, d1, d2⟩ := HQ.out.ed HT.out.2.1 HGK.out (parL_get (rnE F) s.2 k hed)
                            have HE : Hid (s.2[k]? = some ed ∧ osl[i]? = some (kd, some ⟨eg, 0, none⟩, en, ec) ∧ ed ∈ s.2 ∧ s ∈ x.states) := ⟨hed, by rw [← hea]; exact HT.out.2.1, List.mem_of_getElem? hed, List.mem_of_getElem? HT.out.2.2.1⟩
                            rw [hea] at l2
                            have hrc := right_costs HOK.out s HE.out.2.2.2 ed HE.out.2.2.1
                            rw [HL.out.1] at hrc
                            clear hea hed
                            have hz0 : decide ((k : Int) < (en : Int)) = true := by simp; omega
                            have hzd : (k : Int) < (en : Int) := by omega
                            by_cases hc : ed.2 = -1
                            · have HN : Hid (FO wo w6.heap.size { x with defs := K.map numD, front := F x.front, back := F x.back, subst := x.subst.map F, states := (parL G x.states i).set i (s.1, parL (rnE F) s.2 (k + 1)) } dd dcc (some ⟨osg, 0, none⟩) osc ota otc osl wr) := by
                                rw [parL_same (rnE F) s.2 k HE.out.1 (by rw [rnE, if_pos hc]; exact Prod.ext rfl hc.symm)]; exact HQ.out
                              rw [hc] at d1
                              clear hc hrc HE HQ d2 HGK
                              go_wp2
                              go_roundg (gk - 1)
                              case measure => omega
                              case rel => exact ⟨k + 1, by omega, by go_num, HN.out⟩
                            · obtain ⟨pn, hpn⟩ : ∃ pn : Nat, ed.2 = (pn : Int) ∧ pn < dn := ⟨ed.2.toNat, by omega, by omega⟩
                              obtain ⟨z, hz⟩ : ∃ z, vAt vs (pn : Int) = z := ⟨_, rfl⟩
                              have hcv := (HD.out wr (HKW.out wr HQ.out.low).2).2.1 pn hpn.2
                              rw [hz] at hcv
                              obtain ⟨ix, hix⟩ : ∃ v, F ed.2 = v := ⟨_, rfl⟩
                              have HZ : Hid (ed.2 ∈ placesL x ∧ z = vAt vs ed.2 ∧ ix = F ed.2 ∧ rnE F ed = (ed.1, ix)) := ⟨cost_place HE.out.2.2.2 HE.out.2.2.1 hc, by rw [hpn.1, hz], hix.symm, by rw [rnE, if_neg hc, hix]⟩
                              have hpd : (pn : Int) < (dn : Int) := by omega
                              rw [hpn.1] at d1
                              have HSd : Hid (wr.drew.cell? ⟨w6.heap.size, 10, none⟩ = some (.slice (some ⟨otg, 0, none⟩) tn otc) ∧ wr.drew.cell? ⟨otg, i * 2 + 1, none⟩ = some (.slice (some ⟨eg, 0, none⟩) en ec) ∧ wr.drew.cell? ⟨vg, pn, none⟩ = some (.int .i64 z)) := ⟨o10, l2, hcv⟩
                              clear hc hrc hpn hz hix hcv
                              go_wp2_with fail
                              have hs0 := HSd.out
                              refine wp_region_Y (fun j => [15].contains j) (fun W : World => W.cell? ⟨w6.heap.size, 10, none⟩ = some (.slice (some ⟨otg, 0, none⟩) tn otc) ∧ W.cell? ⟨otg, i * 2 + 1, none⟩ = some (.slice (some ⟨eg, 0, none⟩) en ec) ∧ W.cell? ⟨vg, pn, none⟩ = some (.int .i64 z)) (by kernel_rfl) ?_
                              refine wpAnyY_takeD (i := 0) 181 (v := .pointer (some ⟨w6.heap.size, 10, none⟩)) rfl rfl (by kernel_rfl) (by kernel_rfl) (late_of (by kernel_rfl)) (by kernel_rfl) (by kernel_rfl) (fun _ _ _ h => h) hs0 (Or.inl ⟨by rfl, by (intro W hW; obtain ⟨s0, s1, s2⟩ := hW; go_simp)⟩) ?_
                              simp only [Act.put, List.setIfInBounds_toArray, List.set_cons_succ, List.set_cons_zero]
                              refine wpAnyY_takeD (i := 1) 182 (v := .slice (some ⟨otg, 0, none⟩) tn otc) rfl rfl (by kernel_rfl) (by kernel_rfl) (late_of (by kernel_rfl)) (by kernel_rfl) (by kernel_rfl) (fun _ _ _ h => h) hs0 (Or.inl ⟨by rfl, by (intro W hW; obtain ⟨s0, s1, s2⟩ := hW; go_simp)⟩) ?_
                              simp only [Act.put, List.setIfInBounds_toArray, List.set_cons_succ, List.set_cons_zero]
                              refine wpAnyY_takeD (i := 2) 183 (v := .int .i64 (i : Int)) rfl rfl (by kernel_rfl) (by kernel_rfl) (late_of (by kernel_rfl)) (by kernel_rfl) (by kernel_rfl) (fun _ _ _ h => h) hs0 (Or.inl ⟨by rfl, by (intro W hW; obtain ⟨s0, s1, s2⟩ := hW; go_simp)⟩) ?_
                              simp only [Act.put, List.setIfInBounds_toArray, List.set_cons_succ, List.set_cons_zero]
                              refine wpAnyY_takeD (i := 3) 184 (v := .pointer (some ⟨otg, i * 2, none⟩)) rfl rfl (by kernel_rfl) (by kernel_rfl) (late_of (by kernel_rfl)) (by kernel_rfl) (by kernel_rfl) (fun _ _ _ h => h) hs0 (Or.inl ⟨by rfl, by (intro W hW; obtain ⟨s0, s1, s2⟩ := hW; go_simp)⟩) ?_
                              simp only [Act.put, List.setIfInBounds_toArray, List.set_cons_succ, List.set_cons_zero]
                              refine wpAnyY_takeD (i := 4) 185 (v := .pointer (some ⟨otg, i * 2 + 1, none⟩)) rfl rfl (by kernel_rfl) (by kernel_rfl) (late_of (by kernel_rfl)) (by kernel_rfl) (by kernel_rfl) (fun _ _ _ h => h) hs0 (Or.inl ⟨by rfl, by (intro W hW; obtain ⟨s0, s1, s2⟩ := hW; go_simp)⟩) ?_
                              simp only [Act.put, List.setIfInBounds_toArray, List.set_cons_succ, List.set_cons_zero]
                              refine wpAnyY_takeD (i := 5) 186 (v := .slice (some ⟨eg, 0, none⟩) en ec) rfl rfl (by kernel_rfl) (by kernel_rfl) (late_of (by kernel_rfl)) (by kernel_rfl) (by kernel_rfl) (fun _ _ _ h => h) hs0 (Or.inl ⟨by rfl, by (intro W hW; obtain ⟨s0, s1, s2⟩ := hW; go_simp)⟩) ?_
                              simp only [Act.put, List.setIfInBounds_toArray, List.set_cons_succ, List.set_cons_zero]
                              refine wpAnyY_takeD (i := 6) 187 (v := .int .i64 (k : Int)) rfl rfl (by kernel_rfl) (by kernel_rfl) (late_of (by kernel_rfl)) (by kernel_rfl) (by kernel_rfl) (fun _ _ _ h => h) hs0 (Or.inl ⟨by rfl, by (intro W hW; obtain ⟨s0, s1, s2⟩ := hW; go_simp)⟩) ?_
                              simp only [Act.put, List.setIfInBounds_toArray, List.set_cons_succ, List.set_cons_zero]
                              refine wpAnyY_takeD (i := 7) 188 (v := .slice (some ⟨kg, ko, none⟩) m2 lc2) rfl rfl (by kernel_rfl) (by kernel_rfl) (late_of (by kernel_rfl)) (by kernel_rfl) (by kernel_rfl) (fun _ _ _ h => h) hs0 (Or.inl ⟨by rfl, by (intro W hW; obtain ⟨s0, s1, s2⟩ := hW; go_simp)⟩) ?_
                              simp only [Act.put, List.setIfInBounds_toArray, List.set_cons_succ, List.set_cons_zero]
                              refine wpAnyY_takeD (i := 8) 189 (v := .slice (some ⟨vg, 0, none⟩) dn vc) rfl rfl (by kernel_rfl) (by kernel_rfl) (late_of (by kernel_rfl)) (by kernel_rfl) (by kernel_rfl) (fun _ _ _ h => h) hs0 (Or.inl ⟨by rfl, by (intro W hW; obtain ⟨s0, s1, s2⟩ := hW; go_simp)⟩) ?_
                              simp only [Act.put, List.setIfInBounds_toArray, List.set_cons_succ, List.set_cons_zero]
                              refine wpAnyY_takeD (i := 9) 190 (v := .int .i64 (pn : Int)) rfl rfl (by kernel_rfl) (by kernel_rfl) (late_of (by kernel_rfl)) (by kernel_rfl) (by kernel_rfl) (fun _ _ _ h => h) hs0 (Or.inl ⟨by rfl, by (intro W hW; obtain ⟨s0, s1, s2⟩ := hW; go_simp)⟩) ?_
                              simp only [Act.put, List.setIfInBounds_toArray, List.set_cons_succ, List.set_cons_zero]
                              refine wpAnyY_takeD (i := 10) 191 (v := .pointer (some ⟨vg, pn, none⟩)) rfl rfl (by kernel_rfl) (by kernel_rfl) (late_of (by kernel_rfl)) (by kernel_rfl) (by kernel_rfl) (fun _ _ _ h => h) hs0 (Or.inl ⟨by rfl, by (intro W hW; obtain ⟨s0, s1, s2⟩ := hW; go_simp)⟩) ?_
                              simp only [Act.put, List.setIfInBounds_toArray, List.set_cons_succ, List.set_cons_zero]
                              refine wpAnyY_takeD (i := 11) 192 (v := .int .i64 z) rfl rfl (by kernel_rfl) (by kernel_rfl) (late_of (by kernel_rfl)) (by kernel_rfl) (by kernel_rfl) (fun _ _ _ h => h) hs0 (Or.inl ⟨by rfl, by (intro W hW; obtain ⟨s0, s1, s2⟩ := hW; go_simp)⟩) ?_
                              simp only [Act.put, List.setIfInBounds_toArray, List.set_cons_succ, List.set_cons_zero]
                              refine wpAnyY_one (i := 12) rfl (by kernel_rfl) (fun Kc hKc => ?_)
                              refine step_fn rfl 28 _ _ rfl Try.f28 Try.func28 (by kernel_rfl) (by kernel_rfl) #[.slice (some ⟨kg, ko, none⟩) m2 lc2, .int .i64 z] (by simp [Act.eval]) (HPO.out wr.drew ed.2 z ix HZ.out.1 HZ.out.2.1 HZ.out.2.2.1 HQ.out.low.drew) ?_
                              rintro e w11 ⟨rfl, rfl⟩
                              refine ⟨_, rfl, hKc.out _ _ (fun _ h => h) ?_⟩
                              clear hKc Kc
                              simp only [Act.put]
                              refine wpAnyY_one (i := 13) rfl (by kernel_rfl) (fun Kc hKc => ?_)
                              go_simp
                              refine hKc.out _ _ (fun _ h => h) ?_
                              clear hKc Kc
                              refine wpAnyY_one (i := 14) rfl (by kernel_rfl) (fun Kc hKc => ?_)
                              go_simp
                              refine hKc.out _ _ (fun _ h => h) ?_
                              clear hKc Kc
                              refine wpAnyY_one (i := 15) rfl (by kernel_rfl) (fun Kc hKc => ?_)
                              go_simp
                              refine hKc.out _ _ (fun h => absurd h (by decide)) ?_
                              clear hKc Kc
                              refine wpAnyY_done (by kernel_rfl) ?_ _
                              have HN : Hid (FO wo w6.heap.size { x with defs := K.map numD, front := F x.front, back := F x.back, subst := x.subst.map F, states := (parL G x.states i).set i (s.1, parL (rnE F) s.2 (k + 1)) } dd dcc (some ⟨osg, 0, none⟩) osc ota otc osl (wr.setCell ⟨eg, k * 2 + 1, none⟩ (.int .i64 ix)).drew) := by
                                have h1 := HQ.out.edge HE.out.2.1 HGK.out (parL_get (rnE F) s.2 k HE.out.1) ix
                                have h2 : (parL (rnE F) s.2 k).set k (ed.1, ix) = parL (rnE F) s.2 (k + 1) := by rw [← HZ.out.2.2.2]; exact parL_set (rnE F) s.2 k HE.out.1
                                simp only [List.set_set] at h1
                                rw [h2] at h1
                                exact h1.heap rfl h1.low.drew
                              clear HQ HE HZ HGK hs0 HSd o10 l2 d1 d2
                              go_wp2
                              go_roundg (gk - 1)
                              case measure => omega
                              case rel => exact ⟨k + 1, by omega, by go_num, HN.out⟩
                          · have hz0 : decide ((k : Int) < (en : Int)) = false := by simp; omega
                            have HN : Hid (FO wo w6.heap.size { x with defs := K.map numD, front := F x.front, back := F x.back, subst := x.subst.map F, states := parL G x.states (i + 1) } dd dcc (some ⟨osg, 0, none⟩) osc ota otc osl wr) := by
                              have h1 : (parL G x.states i).set i (s.1, parL (rnE F) s.2 k) = parL G x.states (i + 1) := by
                                rw [parL_all (rnE F) s.2 (by rw [HT.out.2.2.2.1]; omega), ← parL_set G x.states i HT.out.2.2.1, HG.out]
                              rw [← h1]; exact HQ.out
                            clear HQ HGK
                            go_wp2
                            go_roundg (gP - 1)
                            case measure => omega
                            case rel => exact ⟨i + 1, by omega, by go_num, HN.out⟩
                      · have hk0 : decide ((i : Int) < (tn : Int)) = false := by simp; omega
                        obtain ⟨Y, hY⟩ : ∃ Y, foldB x vs = Y := ⟨_, rfl⟩
                        have HY : Hid (foldB x vs = Y ∧ (∀ s ∈ Y.states, s.2.length ≤ 100)) := ⟨hY, by rw [← hY]; exact right_edges (fold_right HOK.out HVS.out).1⟩
                        have HX9 : Hid (FO wo w6.heap.size Y dd dcc (some ⟨osg, 0, none⟩) osc ota otc osl wp) := by
                          have := HQ.out
                          rw [parL_all G x.states (by rw [HL.out.2.2]; omega), HG.out] at this
                          rw [← hY, HK.out.2.2.2.2.2.2.2]
                          exact this
                        clear HQ hY
                        have HDw : Hid (D5 w #[.int .i64 x.letters, .slice da dn dc, .slice sa sn sc, .int .i64 x.beg, .int .i64 x.fin, .int .i64 x.front, .int .i64 x.back, .bool x.banded, .int .i64 x.lo, .int .i64 x.hi, .slice ta tn tc] wp ∧ w.heap.size ≤ wo.heap.size) := ⟨(HD.out wp (HKW.out wp HX9.out.low).2).1, (HD.out wo (HKW.out wo (Below.refl _ _)).2).1.low.size⟩
                        go_upto_region 41 with (fail)
                        clear o10
                        have p0 : wp.cell? ⟨w6.heap.size, 0, none⟩ = some (.int .i64 Y.letters) := blk (HX9.out.out) rfl
                        have p1 : wp.cell? ⟨w6.heap.size, 1, none⟩ = some (.slice dd Y.defs.length dcc) := blk (HX9.out.out) rfl
                        have p2 : wp.cell? ⟨w6.heap.size, 2, none⟩ = some (.slice (some ⟨osg, 0, none⟩) Y.subst.length osc) := blk (HX9.out.out) rfl
                        have p3 : wp.cell? ⟨w6.heap.size, 3, none⟩ = some (.int .i64 Y.beg) := blk (HX9.out.out) rfl
                        have p4 : wp.cell? ⟨w6.heap.size, 4, none⟩ = some (.int .i64 Y.fin) := blk (HX9.out.out) rfl
                        have p5 : wp.cell? ⟨w6.heap.size, 5, none⟩ = some (.int .i64 Y.front) := blk (HX9.out.out) rfl
                        have p6 : wp.cell? ⟨w6.heap.size, 6, none⟩ = some (.int .i64 Y.back) := blk (HX9.out.out) rfl
                        have p7 : wp.cell? ⟨w6.heap.size, 7, none⟩ = some (.bool Y.banded) := blk (HX9.out.out) rfl
                        have p8 : wp.cell? ⟨w6.heap.size, 8, none⟩ = some (.int .i64 Y.lo) := blk (HX9.out.out) rfl
                        have p9 : wp.cell? ⟨w6.heap.size, 9, none⟩ = some (.int .i64 Y.hi) := blk (HX9.out.out) rfl
                        have p10 : wp.cell? ⟨w6.heap.size, 10, none⟩ = some (.slice ota Y.states.length otc) := blk (HX9.out.out) rfl
                        have r0 : wp.cell? ⟨w.heap.size + 1, 0, none⟩ = some (.int .i64 0) := blk (HDw.out.1.res) rfl
                        have r1 : wp.cell? ⟨w.heap.size + 1, 1, none⟩ = some (.slice none 0 0) := blk (HDw.out.1.res) rfl
                        have r2 : wp.cell? ⟨w.heap.size + 1, 2, none⟩ = some (.slice none 0 0) := blk (HDw.out.1.res) rfl
                        have r3 : wp.cell? ⟨w.heap.size + 1, 3, none⟩ = some (.int .i64 0) := blk (HDw.out.1.res) rfl
                        have r4 : wp.cell? ⟨w.heap.size + 1, 4, none⟩ = some (.int .i64 0) := blk (HDw.out.1.res) rfl
                        have r5 : wp.cell? ⟨w.heap.size + 1, 5, none⟩ = some (.int .i64 0) := blk (HDw.out.1.res) rfl
                        have r6 : wp.cell? ⟨w.heap.size + 1, 6, none⟩ = some (.int .i64 0) := blk (HDw.out.1.res) rfl
                        have r7 : wp.cell? ⟨w.heap.size + 1, 7, none⟩ = some (.bool false) := blk (HDw.out.1.res) rfl
                        have r8 : wp.cell? ⟨w.heap.size + 1, 8, none⟩ = some (.int .i64 0) := blk (HDw.out.1.res) rfl
                        have r9 : wp.cell? ⟨w.heap.size + 1, 9, none⟩ = some (.int .i64 0) := blk (HDw.out.1.res) rfl
                        have r10 : wp.cell? ⟨w.heap.size + 1, 10, none⟩ = some (.slice none 0 0) := blk (HDw.out.1.res) rfl
                        have rf : ∀ i, wp.frozen? ⟨w.heap.size + 1, i, none⟩ = false := fun i => frozen_of_row wp _ i _ _ HDw.out.1.res
                        go_wp2
                        refine bodyPost_ret (v := .tuple #[.agg #[.int .i64 Y.letters, .slice dd Y.defs.length dcc, .slice (some ⟨osg, 0, none⟩) Y.subst.length osc, .int .i64 Y.beg, .int .i64 Y.fin, .int .i64 Y.front, .int .i64 Y.back, .bool Y.banded, .int .i64 Y.lo, .int .i64 Y.hi, .slice ota Y.states.length otc], .int .i64 0]) ?_ rfl ?_
                        · simp only [results, hres]
                          go_simp
                        · refine ⟨dd, dcc, some ⟨osg, 0, none⟩, osc, ota, otc, ?_, below_r HDw.out.1.low _ _ _ _ _ _ _ _ _ _ _, ?_⟩
                          · simp only [okX, okE, if_true, rcCells, HY.out.1]
                          · simp only [okX, if_true, HY.out.1]
                            have h1 := HX9.out.cp.rcO HY.out.2
                            exact (RcO.mk (owned_base h1.defs HDw.out.2) (owned_base h1.subst HDw.out.2) (h1.states.base' HDw.out.2)).by HDw.out.1.res (grown_r _ _ _ _ _ _ _ _ _ _ _)
end Go.Proofs.Ytolehoibpnenlaa
