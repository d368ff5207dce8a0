/-
  PassesOnce: its walk.
-/
import Derived.Test.YtolehoibpnenlabPsN
import Derived.Test.YtolehoibpnenlabMq
import Derived.Test.YtolehoibpnenlabPoQ
import Derived.Test.YtolehoibpnenlabRcE6
import Derived.Test.YtolehoibpnenlabPdI
namespace Go.Proofs.Ytolehoibpnenlab
open Go.RowKit Go.Deep Go.Maps

set_option maxRecDepth 20000 in
set_option maxHeartbeats 4000000 in
theorem walkOnce (x : Rc) (da : Option Addr) (dn dc : Nat) (sa : Option Addr) (sn sc : Nat) (ta : Option Addr) (tn tc : Nat) (w : World) (h : RcAt w x da dn sa sn ta tn) :
    Calls Try.prog 3 #[.agg (rcCells x da dn dc sa sn sc ta tn tc)] w fun e w' => e = .returned (.bool true) ∧ Below w.heap.size w w' := by
  have HB0 : Hid (Rb w (rcCells x da dn dc sa sn sc ta tn tc) (w.alloc (.cells (rcCells x da dn dc sa sn sc ta tn tc) 26))) := Rb.start _ _
  have HAt : Hid (∀ W, Below w.heap.size w W → RcAt W x da dn sa sn ta tn) := fun W hW => h.below hW
  have HRi : Hid (∀ W, Below w.heap.size w W → Calls Try.prog 5 #[.agg (rcCells x da dn dc sa sn sc ta tn tc)] W fun e w' => e = .returned (.bool (rightR x)) ∧ Below W.heap.size W w') := fun W hW => refright_calls x da dn dc sa sn sc ta tn tc W (h.below hW)
  have hfit := h.defs.fits
  clear h
  unfold rcCells at HB0 HRi ⊢
  go_enter Try.func3, Try.ntmps3
  go_wp2_with fail
  refine (awake_calls _).mono ?_
  rintro e w1 ⟨rfl, hb1⟩
  have HB1 : Hid (Rb w #[.int .i64 x.letters, .slice da dn dc, .slice sa sn sc, .int .i64 x.beg, .int .i64 x.fin, .int .i64 x.front, .int .i64 x.back, .bool x.banded, .int .i64 x.lo, .int .i64 x.hi, .slice ta tn tc] w1) := HB0.out.next hb1
  clear hb1 HB0
  have c0 : w1.cell? ⟨w.heap.size, 0, none⟩ = some (.int .i64 x.letters) := blk HB1.out.box rfl
  have c1 : w1.cell? ⟨w.heap.size, 1, none⟩ = some (.slice da dn dc) := blk HB1.out.box rfl
  have c2 : w1.cell? ⟨w.heap.size, 2, none⟩ = some (.slice sa sn sc) := blk HB1.out.box rfl
  have c3 : w1.cell? ⟨w.heap.size, 3, none⟩ = some (.int .i64 x.beg) := blk HB1.out.box rfl
  have c4 : w1.cell? ⟨w.heap.size, 4, none⟩ = some (.int .i64 x.fin) := blk HB1.out.box rfl
  have c5 : w1.cell? ⟨w.heap.size, 5, none⟩ = some (.int .i64 x.front) := blk HB1.out.box rfl
  have c6 : w1.cell? ⟨w.heap.size, 6, none⟩ = some (.int .i64 x.back) := blk HB1.out.box rfl
  have c7 : w1.cell? ⟨w.heap.size, 7, none⟩ = some (.bool x.banded) := blk HB1.out.box rfl
  have c8 : w1.cell? ⟨w.heap.size, 8, none⟩ = some (.int .i64 x.lo) := blk HB1.out.box rfl
  have c9 : w1.cell? ⟨w.heap.size, 9, none⟩ = some (.int .i64 x.hi) := blk HB1.out.box rfl
  have c10 : w1.cell? ⟨w.heap.size, 10, none⟩ = some (.slice ta tn tc) := blk HB1.out.box rfl
  go_wp2_with fail
  refine (HRi.out w1 HB1.out.low).mono ?_
  rintro e w2 ⟨rfl, hb2⟩
  have HB2 : Hid (Rb w #[.int .i64 x.letters, .slice da dn dc, .slice sa sn sc, .int .i64 x.beg, .int .i64 x.fin, .int .i64 x.front, .int .i64 x.back, .bool x.banded, .int .i64 x.lo, .int .i64 x.hi, .slice ta tn tc] w2) := HB1.out.next hb2
  clear hb2 HB1 HRi c0 c1 c2 c3 c4 c5 c6 c7 c8 c9 c10
  cases hok : rightR x with
  | false =>
    go_wp2
    go_ret
    exact ⟨rfl, HB2.out.low⟩
  | true =>
    obtain ⟨r1, v1⟩ := fold_right hok (rfl : (valsB x.defs).1 = _)
    have r2 := drop_right hok
    have r3 := clamp_right hok
    have f1 := fold_fit hok hfit
    have f2 := drop_fit hok hfit
    have f3 := clamp_fit hok hfit
    have q1 : foldB (foldB x (valsB x.defs).1) (valsB (foldB x (valsB x.defs).1).defs).1 = foldB x (valsB x.defs).1 := by rw [v1]; exact fold_once
    have q2 := drop_once hok
    have q3 := clamp_once x
    obtain ⟨Y1, hY1⟩ : ∃ Y, foldB x (valsB x.defs).1 = Y := ⟨_, rfl⟩
    rw [hY1] at r1 f1 q1
    have HP1 : Hid (∀ W, Below w.heap.size w W → Calls Try.prog 6 #[.agg #[.int .i64 x.letters, .slice da dn dc, .slice sa sn sc, .int .i64 x.beg, .int .i64 x.fin, .int .i64 x.front, .int .i64 x.back, .bool x.banded, .int .i64 x.lo, .int .i64 x.hi, .slice ta tn tc]] W fun e w' => UPost Y1 0 W e w') := fun W hW => by
      have := (foldF_any (.inl foldP_ok) da dn dc sa sn sc ta tn tc W (HAt.out W hW)).mono fun _ _ hp => pass_u hp
      rw [hok] at this
      rw [← hY1]
      exact this
    have HQ1 : Hid (∀ W da1 dc1 sa1 sc1 ta1 tc1, RcAt W Y1 da1 Y1.defs.length sa1 Y1.subst.length ta1 Y1.states.length → Calls Try.prog 6 #[.agg (rcCells Y1 da1 Y1.defs.length dc1 sa1 Y1.subst.length sc1 ta1 Y1.states.length tc1)] W fun e w' => UPost Y1 0 W e w') := fun W da1 dc1 sa1 sc1 ta1 tc1 hW => by
      have := (foldF_any (x := Y1) (.inl foldP_ok) da1 Y1.defs.length dc1 sa1 Y1.subst.length sc1 ta1 Y1.states.length tc1 W hW).mono fun _ _ hp => pass_u hp
      rw [r1] at this
      have e : okX true ((foldP.2 Y1 (valsB Y1.defs).1).1) = Y1 := q1
      rw [e] at this
      exact this
    have HF1 : Hid (Fit Y1) := f1
    have HSa1 : Hid (∀ W g g' da1 dc1 sa1 sc1 ta1 tc1 da2 dc2 sa2 sc2 ta2 tc2, Bx W g Y1 da1 dc1 sa1 sc1 ta1 tc1 → Bx W g' Y1 da2 dc2 sa2 sc2 ta2 tc2 → Calls Try.prog 9 #[.agg (rcCells Y1 da1 Y1.defs.length dc1 sa1 Y1.subst.length sc1 ta1 Y1.states.length tc1), .agg (rcCells Y1 da2 Y1.defs.length dc2 sa2 Y1.subst.length sc2 ta2 Y1.states.length tc2)] W fun e w' => e = .returned (.bool true) ∧ Below W.heap.size W w') := fun W g g' da1 dc1 sa1 sc1 ta1 tc1 da2 dc2 sa2 sc2 ta2 tc2 h1 h2 => same_calls _ _ _ _ _ _ _ _ _ _ _ _ _ _ _ _ W h1.at' h2.at'
    obtain ⟨Y2, hY2⟩ : ∃ Y, dropB x = Y := ⟨_, rfl⟩
    rw [hY2] at r2 f2 q2
    have HP2 : Hid (∀ W, Below w.heap.size w W → Calls Try.prog 7 #[.agg #[.int .i64 x.letters, .slice da dn dc, .slice sa sn sc, .int .i64 x.beg, .int .i64 x.fin, .int .i64 x.front, .int .i64 x.back, .bool x.banded, .int .i64 x.lo, .int .i64 x.hi, .slice ta tn tc]] W fun e w' => UPost Y2 0 W e w') := fun W hW => by
      have := (dropF_any (.inl drpP_ok) da dn dc sa sn sc ta tn tc W (HAt.out W hW)).mono fun _ _ hp => pass_u hp
      rw [hok] at this
      rw [← hY2]
      exact this
    have HQ2 : Hid (∀ W da1 dc1 sa1 sc1 ta1 tc1, RcAt W Y2 da1 Y2.defs.length sa1 Y2.subst.length ta1 Y2.states.length → Calls Try.prog 7 #[.agg (rcCells Y2 da1 Y2.defs.length dc1 sa1 Y2.subst.length sc1 ta1 Y2.states.length tc1)] W fun e w' => UPost Y2 0 W e w') := fun W da1 dc1 sa1 sc1 ta1 tc1 hW => by
      have := (dropF_any (x := Y2) (.inl drpP_ok) da1 Y2.defs.length dc1 sa1 Y2.subst.length sc1 ta1 Y2.states.length tc1 W hW).mono fun _ _ hp => pass_u hp
      rw [r2] at this
      have e : okX true ((drpP.2 Y2 (valsB Y2.defs).1).1) = Y2 := q2
      rw [e] at this
      exact this
    have HF2 : Hid (Fit Y2) := f2
    have HSa2 : Hid (∀ W g g' da1 dc1 sa1 sc1 ta1 tc1 da2 dc2 sa2 sc2 ta2 tc2, Bx W g Y2 da1 dc1 sa1 sc1 ta1 tc1 → Bx W g' Y2 da2 dc2 sa2 sc2 ta2 tc2 → Calls Try.prog 9 #[.agg (rcCells Y2 da1 Y2.defs.length dc1 sa1 Y2.subst.length sc1 ta1 Y2.states.length tc1), .agg (rcCells Y2 da2 Y2.defs.length dc2 sa2 Y2.subst.length sc2 ta2 Y2.states.length tc2)] W fun e w' => e = .returned (.bool true) ∧ Below W.heap.size W w') := fun W g g' da1 dc1 sa1 sc1 ta1 tc1 da2 dc2 sa2 sc2 ta2 tc2 h1 h2 => same_calls _ _ _ _ _ _ _ _ _ _ _ _ _ _ _ _ W h1.at' h2.at'
    obtain ⟨Y3, hY3⟩ : ∃ Y, clampB x = Y := ⟨_, rfl⟩
    rw [hY3] at r3 f3 q3
    have HP3 : Hid (∀ W, Below w.heap.size w W → Calls Try.prog 8 #[.agg #[.int .i64 x.letters, .slice da dn dc, .slice sa sn sc, .int .i64 x.beg, .int .i64 x.fin, .int .i64 x.front, .int .i64 x.back, .bool x.banded, .int .i64 x.lo, .int .i64 x.hi, .slice ta tn tc]] W fun e w' => UPost Y3 0 W e w') := fun W hW => by
      have := (clampF_any (.inl clampP_ok) da dn dc sa sn sc ta tn tc W (HAt.out W hW)).mono fun _ _ hp => pass_u hp
      rw [hok] at this
      rw [← hY3]
      exact this
    have HQ3 : Hid (∀ W da1 dc1 sa1 sc1 ta1 tc1, RcAt W Y3 da1 Y3.defs.length sa1 Y3.subst.length ta1 Y3.states.length → Calls Try.prog 8 #[.agg (rcCells Y3 da1 Y3.defs.length dc1 sa1 Y3.subst.length sc1 ta1 Y3.states.length tc1)] W fun e w' => UPost Y3 0 W e w') := fun W da1 dc1 sa1 sc1 ta1 tc1 hW => by
      have := (clampF_any (x := Y3) (.inl clampP_ok) da1 Y3.defs.length dc1 sa1 Y3.subst.length sc1 ta1 Y3.states.length tc1 W hW).mono fun _ _ hp => pass_u hp
      rw [r3] at this
      have e : okX true ((clampP.2 Y3 (valsB Y3.defs).1).1) = Y3 := q3
      rw [e] at this
      exact this
    have HF3 : Hid (Fit Y3) := f3
    have HSa3 : Hid (∀ W g g' da1 dc1 sa1 sc1 ta1 tc1 da2 dc2 sa2 sc2 ta2 tc2, Bx W g Y3 da1 dc1 sa1 sc1 ta1 tc1 → Bx W g' Y3 da2 dc2 sa2 sc2 ta2 tc2 → Calls Try.prog 9 #[.agg (rcCells Y3 da1 Y3.defs.length dc1 sa1 Y3.subst.length sc1 ta1 Y3.states.length tc1), .agg (rcCells Y3 da2 Y3.defs.length dc2 sa2 Y3.subst.length sc2 ta2 Y3.states.length tc2)] W fun e w' => e = .returned (.bool true) ∧ Below W.heap.size W w') := fun W g g' da1 dc1 sa1 sc1 ta1 tc1 da2 dc2 sa2 sc2 ta2 tc2 h1 h2 => same_calls _ _ _ _ _ _ _ _ _ _ _ _ _ _ _ _ W h1.at' h2.at'
    clear r1 r2 r3 f1 f2 f3 q1 q2 q3 hY1 hY2 hY3 v1 HAt hok hfit
    unfold rcCells at HQ1 HQ2 HQ3 HSa1 HSa2 HSa3
    have c0 : w2.cell? ⟨w.heap.size, 0, none⟩ = some (.int .i64 x.letters) := blk HB2.out.box rfl
    have c1 : w2.cell? ⟨w.heap.size, 1, none⟩ = some (.slice da dn dc) := blk HB2.out.box rfl
    have c2 : w2.cell? ⟨w.heap.size, 2, none⟩ = some (.slice sa sn sc) := blk HB2.out.box rfl
    have c3 : w2.cell? ⟨w.heap.size, 3, none⟩ = some (.int .i64 x.beg) := blk HB2.out.box rfl
    have c4 : w2.cell? ⟨w.heap.size, 4, none⟩ = some (.int .i64 x.fin) := blk HB2.out.box rfl
    have c5 : w2.cell? ⟨w.heap.size, 5, none⟩ = some (.int .i64 x.front) := blk HB2.out.box rfl
    have c6 : w2.cell? ⟨w.heap.size, 6, none⟩ = some (.int .i64 x.back) := blk HB2.out.box rfl
    have c7 : w2.cell? ⟨w.heap.size, 7, none⟩ = some (.bool x.banded) := blk HB2.out.box rfl
    have c8 : w2.cell? ⟨w.heap.size, 8, none⟩ = some (.int .i64 x.lo) := blk HB2.out.box rfl
    have c9 : w2.cell? ⟨w.heap.size, 9, none⟩ = some (.int .i64 x.hi) := blk HB2.out.box rfl
    have c10 : w2.cell? ⟨w.heap.size, 10, none⟩ = some (.slice ta tn tc) := blk HB2.out.box rfl
    go_wp2_with fail
    refine (HP1.out w2 HB2.out.low).mono ?_
    rintro e w3 ⟨daA, dcA, saA, scA, taA, tcA, rfl, hb, ho⟩
    unfold rcCells
    go_upto_region 6 with (fail)
    obtain ⟨v3, hv⟩ : ∃ v3, v3 = w3.alloc (.cells #[.int .i64 Y1.letters, .slice daA Y1.defs.length dcA, .slice saA Y1.subst.length scA, .int .i64 Y1.beg, .int .i64 Y1.fin, .int .i64 Y1.front, .int .i64 Y1.back, .bool Y1.banded, .int .i64 Y1.lo, .int .i64 Y1.hi, .slice taA Y1.states.length tcA] 26) := ⟨_, rfl⟩
    rw [← hv]
    obtain ⟨gA, hg⟩ : ∃ gA, w3.heap.size = gA := ⟨_, rfl⟩
    rw [hg]
    have HB3 : Hid (Rb w #[.int .i64 x.letters, .slice da dn dc, .slice sa sn sc, .int .i64 x.beg, .int .i64 x.fin, .int .i64 x.front, .int .i64 x.back, .bool x.banded, .int .i64 x.lo, .int .i64 x.hi, .slice ta tn tc] v3 ∧ Bx v3 gA Y1 daA dcA saA scA taA tcA) := by
      have hn : Below w3.heap.size w3 v3 := by rw [hv]; exact (Below.refl _ _).alloc (Nat.le_refl _) _
      exact ⟨(HB2.out.next hb).next hn, by rw [← hg, hv]; exact Bx.new ho HF1.out⟩
    clear hb ho hv hg HB2 c0 c1 c2 c3 c4 c5 c6 c7 c8 c9 c10
    have c0 : v3.cell? ⟨gA, 0, none⟩ = some (.int .i64 Y1.letters) := blk HB3.out.2.box rfl
    have c1 : v3.cell? ⟨gA, 1, none⟩ = some (.slice daA Y1.defs.length dcA) := blk HB3.out.2.box rfl
    have c2 : v3.cell? ⟨gA, 2, none⟩ = some (.slice saA Y1.subst.length scA) := blk HB3.out.2.box rfl
    have c3 : v3.cell? ⟨gA, 3, none⟩ = some (.int .i64 Y1.beg) := blk HB3.out.2.box rfl
    have c4 : v3.cell? ⟨gA, 4, none⟩ = some (.int .i64 Y1.fin) := blk HB3.out.2.box rfl
    have c5 : v3.cell? ⟨gA, 5, none⟩ = some (.int .i64 Y1.front) := blk HB3.out.2.box rfl
    have c6 : v3.cell? ⟨gA, 6, none⟩ = some (.int .i64 Y1.back) := blk HB3.out.2.box rfl
    have c7 : v3.cell? ⟨gA, 7, none⟩ = some (.bool Y1.banded) := blk HB3.out.2.box rfl
    have c8 : v3.cell? ⟨gA, 8, none⟩ = some (.int .i64 Y1.lo) := blk HB3.out.2.box rfl
    have c9 : v3.cell? ⟨gA, 9, none⟩ = some (.int .i64 Y1.hi) := blk HB3.out.2.box rfl
    have c10 : v3.cell? ⟨gA, 10, none⟩ = some (.slice taA Y1.states.length tcA) := blk HB3.out.2.box rfl
    go_wp2_with fail
    refine (HQ1.out v3 _ _ _ _ _ _ HB3.out.2.at').mono ?_
    rintro e w4 ⟨daB, dcB, saB, scB, taB, tcB, rfl, hb, ho⟩
    unfold rcCells
    go_upto_region 7 with (fail)
    obtain ⟨v4, hv⟩ : ∃ v4, v4 = w4.alloc (.cells #[.int .i64 Y1.letters, .slice daB Y1.defs.length dcB, .slice saB Y1.subst.length scB, .int .i64 Y1.beg, .int .i64 Y1.fin, .int .i64 Y1.front, .int .i64 Y1.back, .bool Y1.banded, .int .i64 Y1.lo, .int .i64 Y1.hi, .slice taB Y1.states.length tcB] 26) := ⟨_, rfl⟩
    rw [← hv]
    obtain ⟨gB, hg⟩ : ∃ gB, w4.heap.size = gB := ⟨_, rfl⟩
    rw [hg]
    have HB4 : Hid (Rb w #[.int .i64 x.letters, .slice da dn dc, .slice sa sn sc, .int .i64 x.beg, .int .i64 x.fin, .int .i64 x.front, .int .i64 x.back, .bool x.banded, .int .i64 x.lo, .int .i64 x.hi, .slice ta tn tc] v4 ∧ Bx v4 gA Y1 daA dcA saA scA taA tcA ∧ Bx v4 gB Y1 daB dcB saB scB taB tcB) := by
      have hn : Below w4.heap.size w4 v4 := by rw [hv]; exact (Below.refl _ _).alloc (Nat.le_refl _) _
      exact ⟨(HB3.out.1.next hb).next hn, (HB3.out.2.next hb).next hn, by rw [← hg, hv]; exact Bx.new ho HF1.out⟩
    clear hb ho hv hg HB3 c0 c1 c2 c3 c4 c5 c6 c7 c8 c9 c10
    have c0 : v4.cell? ⟨w.heap.size, 0, none⟩ = some (.int .i64 x.letters) := blk HB4.out.1.box rfl
    have c1 : v4.cell? ⟨w.heap.size, 1, none⟩ = some (.slice da dn dc) := blk HB4.out.1.box rfl
    have c2 : v4.cell? ⟨w.heap.size, 2, none⟩ = some (.slice sa sn sc) := blk HB4.out.1.box rfl
    have c3 : v4.cell? ⟨w.heap.size, 3, none⟩ = some (.int .i64 x.beg) := blk HB4.out.1.box rfl
    have c4 : v4.cell? ⟨w.heap.size, 4, none⟩ = some (.int .i64 x.fin) := blk HB4.out.1.box rfl
    have c5 : v4.cell? ⟨w.heap.size, 5, none⟩ = some (.int .i64 x.front) := blk HB4.out.1.box rfl
    have c6 : v4.cell? ⟨w.heap.size, 6, none⟩ = some (.int .i64 x.back) := blk HB4.out.1.box rfl
    have c7 : v4.cell? ⟨w.heap.size, 7, none⟩ = some (.bool x.banded) := blk HB4.out.1.box rfl
    have c8 : v4.cell? ⟨w.heap.size, 8, none⟩ = some (.int .i64 x.lo) := blk HB4.out.1.box rfl
    have c9 : v4.cell? ⟨w.heap.size, 9, none⟩ = some (.int .i64 x.hi) := blk HB4.out.1.box rfl
    have c10 : v4.cell? ⟨w.heap.size, 10, none⟩ = some (.slice ta tn tc) := blk HB4.out.1.box rfl
    go_wp2_with fail
    refine (HP2.out v4 HB4.out.1.low).mono ?_
    rintro e w5 ⟨daC, dcC, saC, scC, taC, tcC, rfl, hb, ho⟩
    unfold rcCells
    go_upto_region 8 with (fail)
    obtain ⟨v5, hv⟩ : ∃ v5, v5 = w5.alloc (.cells #[.int .i64 Y2.letters, .slice daC Y2.defs.length dcC, .slice saC Y2.subst.length scC, .int .i64 Y2.beg, .int .i64 Y2.fin, .int .i64 Y2.front, .int .i64 Y2.back, .bool Y2.banded, .int .i64 Y2.lo, .int .i64 Y2.hi, .slice taC Y2.states.length tcC] 26) := ⟨_, rfl⟩
    rw [← hv]
    obtain ⟨gC, hg⟩ : ∃ gC, w5.heap.size = gC := ⟨_, rfl⟩
    rw [hg]
    have HB5 : Hid (Rb w #[.int .i64 x.letters, .slice da dn dc, .slice sa sn sc, .int .i64 x.beg, .int .i64 x.fin, .int .i64 x.front, .int .i64 x.back, .bool x.banded, .int .i64 x.lo, .int .i64 x.hi, .slice ta tn tc] v5 ∧ Bx v5 gA Y1 daA dcA saA scA taA tcA ∧ Bx v5 gB Y1 daB dcB saB scB taB tcB ∧ Bx v5 gC Y2 daC dcC saC scC taC tcC) := by
      have hn : Below w5.heap.size w5 v5 := by rw [hv]; exact (Below.refl _ _).alloc (Nat.le_refl _) _
      exact ⟨(HB4.out.1.next hb).next hn, (HB4.out.2.1.next hb).next hn, (HB4.out.2.2.next hb).next hn, by rw [← hg, hv]; exact Bx.new ho HF2.out⟩
    clear hb ho hv hg HB4 c0 c1 c2 c3 c4 c5 c6 c7 c8 c9 c10
    have c0 : v5.cell? ⟨gC, 0, none⟩ = some (.int .i64 Y2.letters) := blk HB5.out.2.2.2.box rfl
    have c1 : v5.cell? ⟨gC, 1, none⟩ = some (.slice daC Y2.defs.length dcC) := blk HB5.out.2.2.2.box rfl
    have c2 : v5.cell? ⟨gC, 2, none⟩ = some (.slice saC Y2.subst.length scC) := blk HB5.out.2.2.2.box rfl
    have c3 : v5.cell? ⟨gC, 3, none⟩ = some (.int .i64 Y2.beg) := blk HB5.out.2.2.2.box rfl
    have c4 : v5.cell? ⟨gC, 4, none⟩ = some (.int .i64 Y2.fin) := blk HB5.out.2.2.2.box rfl
    have c5 : v5.cell? ⟨gC, 5, none⟩ = some (.int .i64 Y2.front) := blk HB5.out.2.2.2.box rfl
    have c6 : v5.cell? ⟨gC, 6, none⟩ = some (.int .i64 Y2.back) := blk HB5.out.2.2.2.box rfl
    have c7 : v5.cell? ⟨gC, 7, none⟩ = some (.bool Y2.banded) := blk HB5.out.2.2.2.box rfl
    have c8 : v5.cell? ⟨gC, 8, none⟩ = some (.int .i64 Y2.lo) := blk HB5.out.2.2.2.box rfl
    have c9 : v5.cell? ⟨gC, 9, none⟩ = some (.int .i64 Y2.hi) := blk HB5.out.2.2.2.box rfl
    have c10 : v5.cell? ⟨gC, 10, none⟩ = some (.slice taC Y2.states.length tcC) := blk HB5.out.2.2.2.box rfl
    go_wp2_with fail
    refine (HQ2.out v5 _ _ _ _ _ _ HB5.out.2.2.2.at').mono ?_
    rintro e w6 ⟨daD, dcD, saD, scD, taD, tcD, rfl, hb, ho⟩
    unfold rcCells
    go_upto_region 9 with (fail)
    obtain ⟨v6, hv⟩ : ∃ v6, v6 = w6.alloc (.cells #[.int .i64 Y2.letters, .slice daD Y2.defs.length dcD, .slice saD Y2.subst.length scD, .int .i64 Y2.beg, .int .i64 Y2.fin, .int .i64 Y2.front, .int .i64 Y2.back, .bool Y2.banded, .int .i64 Y2.lo, .int .i64 Y2.hi, .slice taD Y2.states.length tcD] 26) := ⟨_, rfl⟩
    rw [← hv]
    obtain ⟨gD, hg⟩ : ∃ gD, w6.heap.size = gD := ⟨_, rfl⟩
    rw [hg]
    have HB6 : Hid (Rb w #[.int .i64 x.letters, .slice da dn dc, .slice sa sn sc, .int .i64 x.beg, .int .i64 x.fin, .int .i64 x.front, .int .i64 x.back, .bool x.banded, .int .i64 x.lo, .int .i64 x.hi, .slice ta tn tc] v6 ∧ Bx v6 gA Y1 daA dcA saA scA taA tcA ∧ Bx v6 gB Y1 daB dcB saB scB taB tcB ∧ Bx v6 gC Y2 daC dcC saC scC taC tcC ∧ Bx v6 gD Y2 daD dcD saD scD taD tcD) := by
      have hn : Below w6.heap.size w6 v6 := by rw [hv]; exact (Below.refl _ _).alloc (Nat.le_refl _) _
      exact ⟨(HB5.out.1.next hb).next hn, (HB5.out.2.1.next hb).next hn, (HB5.out.2.2.1.next hb).next hn, (HB5.out.2.2.2.next hb).next hn, by rw [← hg, hv]; exact Bx.new ho HF2.out⟩
    clear hb ho hv hg HB5 c0 c1 c2 c3 c4 c5 c6 c7 c8 c9 c10
    have c0 : v6.cell? ⟨w.heap.size, 0, none⟩ = some (.int .i64 x.letters) := blk HB6.out.1.box rfl
    have c1 : v6.cell? ⟨w.heap.size, 1, none⟩ = some (.slice da dn dc) := blk HB6.out.1.box rfl
    have c2 : v6.cell? ⟨w.heap.size, 2, none⟩ = some (.slice sa sn sc) := blk HB6.out.1.box rfl
    have c3 : v6.cell? ⟨w.heap.size, 3, none⟩ = some (.int .i64 x.beg) := blk HB6.out.1.box rfl
    have c4 : v6.cell? ⟨w.heap.size, 4, none⟩ = some (.int .i64 x.fin) := blk HB6.out.1.box rfl
    have c5 : v6.cell? ⟨w.heap.size, 5, none⟩ = some (.int .i64 x.front) := blk HB6.out.1.box rfl
    have c6 : v6.cell? ⟨w.heap.size, 6, none⟩ = some (.int .i64 x.back) := blk HB6.out.1.box rfl
    have c7 : v6.cell? ⟨w.heap.size, 7, none⟩ = some (.bool x.banded) := blk HB6.out.1.box rfl
    have c8 : v6.cell? ⟨w.heap.size, 8, none⟩ = some (.int .i64 x.lo) := blk HB6.out.1.box rfl
    have c9 : v6.cell? ⟨w.heap.size, 9, none⟩ = some (.int .i64 x.hi) := blk HB6.out.1.box rfl
    have c10 : v6.cell? ⟨w.heap.size, 10, none⟩ = some (.slice ta tn tc) := blk HB6.out.1.box rfl
    go_wp2_with fail
    refine (HP3.out v6 HB6.out.1.low).mono ?_
    rintro e w7 ⟨daE, dcE, saE, scE, taE, tcE, rfl, hb, ho⟩
    unfold rcCells
    go_upto_region 10 with (fail)
    obtain ⟨v7, hv⟩ : ∃ v7, v7 = w7.alloc (.cells #[.int .i64 Y3.letters, .slice daE Y3.defs.length dcE, .slice saE Y3.subst.length scE, .int .i64 Y3.beg, .int .i64 Y3.fin, .int .i64 Y3.front, .int .i64 Y3.back, .bool Y3.banded, .int .i64 Y3.lo, .int .i64 Y3.hi, .slice taE Y3.states.length tcE] 26) := ⟨_, rfl⟩
    rw [← hv]
    obtain ⟨gE, hg⟩ : ∃ gE, w7.heap.size = gE := ⟨_, rfl⟩
    rw [hg]
    have HB7 : Hid (Rb w #[.int .i64 x.letters, .slice da dn dc, .slice sa sn sc, .int .i64 x.beg, .int .i64 x.fin, .int .i64 x.front, .int .i64 x.back, .bool x.banded, .int .i64 x.lo, .int .i64 x.hi, .slice ta tn tc] v7 ∧ Bx v7 gA Y1 daA dcA saA scA taA tcA ∧ Bx v7 gB Y1 daB dcB saB scB taB tcB ∧ Bx v7 gC Y2 daC dcC saC scC taC tcC ∧ Bx v7 gD Y2 daD dcD saD scD taD tcD ∧ Bx v7 gE Y3 daE dcE saE scE taE tcE) := by
      have hn : Below w7.heap.size w7 v7 := by rw [hv]; exact (Below.refl _ _).alloc (Nat.le_refl _) _
      exact ⟨(HB6.out.1.next hb).next hn, (HB6.out.2.1.next hb).next hn, (HB6.out.2.2.1.next hb).next hn, (HB6.out.2.2.2.1.next hb).next hn, (HB6.out.2.2.2.2.next hb).next hn, by rw [← hg, hv]; exact Bx.new ho HF3.out⟩
    clear hb ho hv hg HB6 c0 c1 c2 c3 c4 c5 c6 c7 c8 c9 c10
    have c0 : v7.cell? ⟨gE, 0, none⟩ = some (.int .i64 Y3.letters) := blk HB7.out.2.2.2.2.2.box rfl
    have c1 : v7.cell? ⟨gE, 1, none⟩ = some (.slice daE Y3.defs.length dcE) := blk HB7.out.2.2.2.2.2.box rfl
    have c2 : v7.cell? ⟨gE, 2, none⟩ = some (.slice saE Y3.subst.length scE) := blk HB7.out.2.2.2.2.2.box rfl
    have c3 : v7.cell? ⟨gE, 3, none⟩ = some (.int .i64 Y3.beg) := blk HB7.out.2.2.2.2.2.box rfl
    have c4 : v7.cell? ⟨gE, 4, none⟩ = some (.int .i64 Y3.fin) := blk HB7.out.2.2.2.2.2.box rfl
    have c5 : v7.cell? ⟨gE, 5, none⟩ = some (.int .i64 Y3.front) := blk HB7.out.2.2.2.2.2.box rfl
    have c6 : v7.cell? ⟨gE, 6, none⟩ = some (.int .i64 Y3.back) := blk HB7.out.2.2.2.2.2.box rfl
    have c7 : v7.cell? ⟨gE, 7, none⟩ = some (.bool Y3.banded) := blk HB7.out.2.2.2.2.2.box rfl
    have c8 : v7.cell? ⟨gE, 8, none⟩ = some (.int .i64 Y3.lo) := blk HB7.out.2.2.2.2.2.box rfl
    have c9 : v7.cell? ⟨gE, 9, none⟩ = some (.int .i64 Y3.hi) := blk HB7.out.2.2.2.2.2.box rfl
    have c10 : v7.cell? ⟨gE, 10, none⟩ = some (.slice taE Y3.states.length tcE) := blk HB7.out.2.2.2.2.2.box rfl
    go_wp2_with fail
    refine (HQ3.out v7 _ _ _ _ _ _ HB7.out.2.2.2.2.2.at').mono ?_
    rintro e w8 ⟨daF, dcF, saF, scF, taF, tcF, rfl, hb, ho⟩
    unfold rcCells
    go_upto_region 11 with (fail)
    obtain ⟨v8, hv⟩ : ∃ v8, v8 = w8.alloc (.cells #[.int .i64 Y3.letters, .slice daF Y3.defs.length dcF, .slice saF Y3.subst.length scF, .int .i64 Y3.beg, .int .i64 Y3.fin, .int .i64 Y3.front, .int .i64 Y3.back, .bool Y3.banded, .int .i64 Y3.lo, .int .i64 Y3.hi, .slice taF Y3.states.length tcF] 26) := ⟨_, rfl⟩
    rw [← hv]
    obtain ⟨gF, hg⟩ : ∃ gF, w8.heap.size = gF := ⟨_, rfl⟩
    rw [hg]
    have HB8 : Hid (Rb w #[.int .i64 x.letters, .slice da dn dc, .slice sa sn sc, .int .i64 x.beg, .int .i64 x.fin, .int .i64 x.front, .int .i64 x.back, .bool x.banded, .int .i64 x.lo, .int .i64 x.hi, .slice ta tn tc] v8 ∧ Bx v8 gA Y1 daA dcA saA scA taA tcA ∧ Bx v8 gB Y1 daB dcB saB scB taB tcB ∧ Bx v8 gC Y2 daC dcC saC scC taC tcC ∧ Bx v8 gD Y2 daD dcD saD scD taD tcD ∧ Bx v8 gE Y3 daE dcE saE scE taE tcE ∧ Bx v8 gF Y3 daF dcF saF scF taF tcF) := by
      have hn : Below w8.heap.size w8 v8 := by rw [hv]; exact (Below.refl _ _).alloc (Nat.le_refl _) _
      exact ⟨(HB7.out.1.next hb).next hn, (HB7.out.2.1.next hb).next hn, (HB7.out.2.2.1.next hb).next hn, (HB7.out.2.2.2.1.next hb).next hn, (HB7.out.2.2.2.2.1.next hb).next hn, (HB7.out.2.2.2.2.2.next hb).next hn, by rw [← hg, hv]; exact Bx.new ho HF3.out⟩
    clear hb ho hv hg HB7 c0 c1 c2 c3 c4 c5 c6 c7 c8 c9 c10
    have c0 : v8.cell? ⟨gA, 0, none⟩ = some (.int .i64 Y1.letters) := blk HB8.out.2.1.box rfl
    have c1 : v8.cell? ⟨gA, 1, none⟩ = some (.slice daA Y1.defs.length dcA) := blk HB8.out.2.1.box rfl
    have c2 : v8.cell? ⟨gA, 2, none⟩ = some (.slice saA Y1.subst.length scA) := blk HB8.out.2.1.box rfl
    have c3 : v8.cell? ⟨gA, 3, none⟩ = some (.int .i64 Y1.beg) := blk HB8.out.2.1.box rfl
    have c4 : v8.cell? ⟨gA, 4, none⟩ = some (.int .i64 Y1.fin) := blk HB8.out.2.1.box rfl
    have c5 : v8.cell? ⟨gA, 5, none⟩ = some (.int .i64 Y1.front) := blk HB8.out.2.1.box rfl
    have c6 : v8.cell? ⟨gA, 6, none⟩ = some (.int .i64 Y1.back) := blk HB8.out.2.1.box rfl
    have c7 : v8.cell? ⟨gA, 7, none⟩ = some (.bool Y1.banded) := blk HB8.out.2.1.box rfl
    have c8 : v8.cell? ⟨gA, 8, none⟩ = some (.int .i64 Y1.lo) := blk HB8.out.2.1.box rfl
    have c9 : v8.cell? ⟨gA, 9, none⟩ = some (.int .i64 Y1.hi) := blk HB8.out.2.1.box rfl
    have c10 : v8.cell? ⟨gA, 10, none⟩ = some (.slice taA Y1.states.length tcA) := blk HB8.out.2.1.box rfl
    have d0 : v8.cell? ⟨gB, 0, none⟩ = some (.int .i64 Y1.letters) := blk HB8.out.2.2.1.box rfl
    have d1 : v8.cell? ⟨gB, 1, none⟩ = some (.slice daB Y1.defs.length dcB) := blk HB8.out.2.2.1.box rfl
    have d2 : v8.cell? ⟨gB, 2, none⟩ = some (.slice saB Y1.subst.length scB) := blk HB8.out.2.2.1.box rfl
    have d3 : v8.cell? ⟨gB, 3, none⟩ = some (.int .i64 Y1.beg) := blk HB8.out.2.2.1.box rfl
    have d4 : v8.cell? ⟨gB, 4, none⟩ = some (.int .i64 Y1.fin) := blk HB8.out.2.2.1.box rfl
    have d5 : v8.cell? ⟨gB, 5, none⟩ = some (.int .i64 Y1.front) := blk HB8.out.2.2.1.box rfl
    have d6 : v8.cell? ⟨gB, 6, none⟩ = some (.int .i64 Y1.back) := blk HB8.out.2.2.1.box rfl
    have d7 : v8.cell? ⟨gB, 7, none⟩ = some (.bool Y1.banded) := blk HB8.out.2.2.1.box rfl
    have d8 : v8.cell? ⟨gB, 8, none⟩ = some (.int .i64 Y1.lo) := blk HB8.out.2.2.1.box rfl
    have d9 : v8.cell? ⟨gB, 9, none⟩ = some (.int .i64 Y1.hi) := blk HB8.out.2.2.1.box rfl
    have d10 : v8.cell? ⟨gB, 10, none⟩ = some (.slice taB Y1.states.length tcB) := blk HB8.out.2.2.1.box rfl
    go_wp2_with fail
    refine (HSa1.out v8 _ _ _ _ _ _ _ _ _ _ _ _ _ _ HB8.out.2.1 HB8.out.2.2.1).mono ?_
    rintro e w9 ⟨rfl, hb⟩
    have HB9 : Hid (Rb w #[.int .i64 x.letters, .slice da dn dc, .slice sa sn sc, .int .i64 x.beg, .int .i64 x.fin, .int .i64 x.front, .int .i64 x.back, .bool x.banded, .int .i64 x.lo, .int .i64 x.hi, .slice ta tn tc] w9 ∧ Bx w9 gA Y1 daA dcA saA scA taA tcA ∧ Bx w9 gB Y1 daB dcB saB scB taB tcB ∧ Bx w9 gC Y2 daC dcC saC scC taC tcC ∧ Bx w9 gD Y2 daD dcD saD scD taD tcD ∧ Bx w9 gE Y3 daE dcE saE scE taE tcE ∧ Bx w9 gF Y3 daF dcF saF scF taF tcF) := ⟨HB8.out.1.next hb, HB8.out.2.1.next hb, HB8.out.2.2.1.next hb, HB8.out.2.2.2.1.next hb, HB8.out.2.2.2.2.1.next hb, HB8.out.2.2.2.2.2.1.next hb, HB8.out.2.2.2.2.2.2.next hb⟩
    clear hb HB8 c0 c1 c2 c3 c4 c5 c6 c7 c8 c9 c10 d0 d1 d2 d3 d4 d5 d6 d7 d8 d9 d10
    have c0 : w9.cell? ⟨gC, 0, none⟩ = some (.int .i64 Y2.letters) := blk HB9.out.2.2.2.1.box rfl
    have c1 : w9.cell? ⟨gC, 1, none⟩ = some (.slice daC Y2.defs.length dcC) := blk HB9.out.2.2.2.1.box rfl
    have c2 : w9.cell? ⟨gC, 2, none⟩ = some (.slice saC Y2.subst.length scC) := blk HB9.out.2.2.2.1.box rfl
    have c3 : w9.cell? ⟨gC, 3, none⟩ = some (.int .i64 Y2.beg) := blk HB9.out.2.2.2.1.box rfl
    have c4 : w9.cell? ⟨gC, 4, none⟩ = some (.int .i64 Y2.fin) := blk HB9.out.2.2.2.1.box rfl
    have c5 : w9.cell? ⟨gC, 5, none⟩ = some (.int .i64 Y2.front) := blk HB9.out.2.2.2.1.box rfl
    have c6 : w9.cell? ⟨gC, 6, none⟩ = some (.int .i64 Y2.back) := blk HB9.out.2.2.2.1.box rfl
    have c7 : w9.cell? ⟨gC, 7, none⟩ = some (.bool Y2.banded) := blk HB9.out.2.2.2.1.box rfl
    have c8 : w9.cell? ⟨gC, 8, none⟩ = some (.int .i64 Y2.lo) := blk HB9.out.2.2.2.1.box rfl
    have c9 : w9.cell? ⟨gC, 9, none⟩ = some (.int .i64 Y2.hi) := blk HB9.out.2.2.2.1.box rfl
    have c10 : w9.cell? ⟨gC, 10, none⟩ = some (.slice taC Y2.states.length tcC) := blk HB9.out.2.2.2.1.box rfl
    have d0 : w9.cell? ⟨gD, 0, none⟩ = some (.int .i64 Y2.letters) := blk HB9.out.2.2.2.2.1.box rfl
    have d1 : w9.cell? ⟨gD, 1, none⟩ = some (.slice daD Y2.defs.length dcD) := blk HB9.out.2.2.2.2.1.box rfl
    have d2 : w9.cell? ⟨gD, 2, none⟩ = some (.slice saD Y2.subst.length scD) := blk HB9.out.2.2.2.2.1.box rfl
    have d3 : w9.cell? ⟨gD, 3, none⟩ = some (.int .i64 Y2.beg) := blk HB9.out.2.2.2.2.1.box rfl
    have d4 : w9.cell? ⟨gD, 4, none⟩ = some (.int .i64 Y2.fin) := blk HB9.out.2.2.2.2.1.box rfl
    have d5 : w9.cell? ⟨gD, 5, none⟩ = some (.int .i64 Y2.front) := blk HB9.out.2.2.2.2.1.box rfl
    have d6 : w9.cell? ⟨gD, 6, none⟩ = some (.int .i64 Y2.back) := blk HB9.out.2.2.2.2.1.box rfl
    have d7 : w9.cell? ⟨gD, 7, none⟩ = some (.bool Y2.banded) := blk HB9.out.2.2.2.2.1.box rfl
    have d8 : w9.cell? ⟨gD, 8, none⟩ = some (.int .i64 Y2.lo) := blk HB9.out.2.2.2.2.1.box rfl
    have d9 : w9.cell? ⟨gD, 9, none⟩ = some (.int .i64 Y2.hi) := blk HB9.out.2.2.2.2.1.box rfl
    have d10 : w9.cell? ⟨gD, 10, none⟩ = some (.slice taD Y2.states.length tcD) := blk HB9.out.2.2.2.2.1.box rfl
    go_wp2_with fail
    refine (HSa2.out w9 _ _ _ _ _ _ _ _ _ _ _ _ _ _ HB9.out.2.2.2.1 HB9.out.2.2.2.2.1).mono ?_
    rintro e w10 ⟨rfl, hb⟩
    have HB10 : Hid (Rb w #[.int .i64 x.letters, .slice da dn dc, .slice sa sn sc, .int .i64 x.beg, .int .i64 x.fin, .int .i64 x.front, .int .i64 x.back, .bool x.banded, .int .i64 x.lo, .int .i64 x.hi, .slice ta tn tc] w10 ∧ Bx w10 gA Y1 daA dcA saA scA taA tcA ∧ Bx w10 gB Y1 daB dcB saB scB taB tcB ∧ Bx w10 gC Y2 daC dcC saC scC taC tcC ∧ Bx w10 gD Y2 daD dcD saD scD taD tcD ∧ Bx w10 gE Y3 daE dcE saE scE taE tcE ∧ Bx w10 gF Y3 daF dcF saF scF taF tcF) := ⟨HB9.out.1.next hb, HB9.out.2.1.next hb, HB9.out.2.2.1.next hb, HB9.out.2.2.2.1.next hb, HB9.out.2.2.2.2.1.next hb, HB9.out.2.2.2.2.2.1.next hb, HB9.out.2.2.2.2.2.2.next hb⟩
    clear hb HB9 c0 c1 c2 c3 c4 c5 c6 c7 c8 c9 c10 d0 d1 d2 d3 d4 d5 d6 d7 d8 d9 d10
    have c0 : w10.cell? ⟨gE, 0, none⟩ = some (.int .i64 Y3.letters) := blk HB10.out.2.2.2.2.2.1.box rfl
    have c1 : w10.cell? ⟨gE, 1, none⟩ = some (.slice daE Y3.defs.length dcE) := blk HB10.out.2.2.2.2.2.1.box rfl
    have c2 : w10.cell? ⟨gE, 2, none⟩ = some (.slice saE Y3.subst.length scE) := blk HB10.out.2.2.2.2.2.1.box rfl
    have c3 : w10.cell? ⟨gE, 3, none⟩ = some (.int .i64 Y3.beg) := blk HB10.out.2.2.2.2.2.1.box rfl
    have c4 : w10.cell? ⟨gE, 4, none⟩ = some (.int .i64 Y3.fin) := blk HB10.out.2.2.2.2.2.1.box rfl
    have c5 : w10.cell? ⟨gE, 5, none⟩ = some (.int .i64 Y3.front) := blk HB10.out.2.2.2.2.2.1.box rfl
    have c6 : w10.cell? ⟨gE, 6, none⟩ = some (.int .i64 Y3.back) := blk HB10.out.2.2.2.2.2.1.box rfl
    have c7 : w10.cell? ⟨gE, 7, none⟩ = some (.bool Y3.banded) := blk HB10.out.2.2.2.2.2.1.box rfl
    have c8 : w10.cell? ⟨gE, 8, none⟩ = some (.int .i64 Y3.lo) := blk HB10.out.2.2.2.2.2.1.box rfl
    have c9 : w10.cell? ⟨gE, 9, none⟩ = some (.int .i64 Y3.hi) := blk HB10.out.2.2.2.2.2.1.box rfl
    have c10 : w10.cell? ⟨gE, 10, none⟩ = some (.slice taE Y3.states.length tcE) := blk HB10.out.2.2.2.2.2.1.box rfl
    have d0 : w10.cell? ⟨gF, 0, none⟩ = some (.int .i64 Y3.letters) := blk HB10.out.2.2.2.2.2.2.box rfl
    have d1 : w10.cell? ⟨gF, 1, none⟩ = some (.slice daF Y3.defs.length dcF) := blk HB10.out.2.2.2.2.2.2.box rfl
    have d2 : w10.cell? ⟨gF, 2, none⟩ = some (.slice saF Y3.subst.length scF) := blk HB10.out.2.2.2.2.2.2.box rfl
    have d3 : w10.cell? ⟨gF, 3, none⟩ = some (.int .i64 Y3.beg) := blk HB10.out.2.2.2.2.2.2.box rfl
    have d4 : w10.cell? ⟨gF, 4, none⟩ = some (.int .i64 Y3.fin) := blk HB10.out.2.2.2.2.2.2.box rfl
    have d5 : w10.cell? ⟨gF, 5, none⟩ = some (.int .i64 Y3.front) := blk HB10.out.2.2.2.2.2.2.box rfl
    have d6 : w10.cell? ⟨gF, 6, none⟩ = some (.int .i64 Y3.back) := blk HB10.out.2.2.2.2.2.2.box rfl
    have d7 : w10.cell? ⟨gF, 7, none⟩ = some (.bool Y3.banded) := blk HB10.out.2.2.2.2.2.2.box rfl
    have d8 : w10.cell? ⟨gF, 8, none⟩ = some (.int .i64 Y3.lo) := blk HB10.out.2.2.2.2.2.2.box rfl
    have d9 : w10.cell? ⟨gF, 9, none⟩ = some (.int .i64 Y3.hi) := blk HB10.out.2.2.2.2.2.2.box rfl
    have d10 : w10.cell? ⟨gF, 10, none⟩ = some (.slice taF Y3.states.length tcF) := blk HB10.out.2.2.2.2.2.2.box rfl
    go_wp2_with fail
    refine (HSa3.out w10 _ _ _ _ _ _ _ _ _ _ _ _ _ _ HB10.out.2.2.2.2.2.1 HB10.out.2.2.2.2.2.2).mono ?_
    rintro e w11 ⟨rfl, hb⟩
    have HB11 : Hid (Rb w #[.int .i64 x.letters, .slice da dn dc, .slice sa sn sc, .int .i64 x.beg, .int .i64 x.fin, .int .i64 x.front, .int .i64 x.back, .bool x.banded, .int .i64 x.lo, .int .i64 x.hi, .slice ta tn tc] w11 ∧ Bx w11 gA Y1 daA dcA saA scA taA tcA ∧ Bx w11 gB Y1 daB dcB saB scB taB tcB ∧ Bx w11 gC Y2 daC dcC saC scC taC tcC ∧ Bx w11 gD Y2 daD dcD saD scD taD tcD ∧ Bx w11 gE Y3 daE dcE saE scE taE tcE ∧ Bx w11 gF Y3 daF dcF saF scF taF tcF) := ⟨HB10.out.1.next hb, HB10.out.2.1.next hb, HB10.out.2.2.1.next hb, HB10.out.2.2.2.1.next hb, HB10.out.2.2.2.2.1.next hb, HB10.out.2.2.2.2.2.1.next hb, HB10.out.2.2.2.2.2.2.next hb⟩
    clear hb HB10 c0 c1 c2 c3 c4 c5 c6 c7 c8 c9 c10 d0 d1 d2 d3 d4 d5 d6 d7 d8 d9 d10
    go_wp2
    go_ret
    exact ⟨rfl, HB11.out.1.low⟩
end Go.Proofs.Ytolehoibpnenlab

