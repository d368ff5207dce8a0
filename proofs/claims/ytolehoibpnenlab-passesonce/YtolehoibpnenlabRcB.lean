/-
  What is asked of a recurrence: its letters and scores, its ends, its band.
-/
import Derived.Test.YtolehoibpnenlabRcA
namespace Go.Proofs.Ytolehoibpnenlab
open Go.RowKit Go.Deep Go.Maps
set_option maxRecDepth 20000 in
set_option maxHeartbeats 1000000 in
theorem rightBand_calls (x : Rc) (da : Option Addr) (dn dc : Nat) (sa : Option Addr) (sn sc : Nat) (ta : Option Addr) (tn tc : Nat) (w : World) :
    Calls Try.prog 26 #[.agg (rcCells x da dn dc sa sn sc ta tn tc)] w fun e w' => e = .returned (.bool (bandR x)) ∧ Below w.heap.size w w' := by
  have HB : Hid (Below w.heap.size w (w.alloc (.cells (rcCells x da dn dc sa sn sc ta tn tc) 26))) := (Rb.start w _).low
  have HN : Hid (bandR x = if x.banded then decide (x.lo ≤ x.hi) else decide (x.lo = 0) && decide (x.hi = 0)) := rfl
  obtain ⟨letters, defs, subst, beg, fin, front, back, banded, lo, hi, states⟩ := x
  unfold rcCells at HB ⊢
  simp only at HN HB ⊢
  cases banded with
  | true =>
    go_enter Try.func26, Try.ntmps26
    go_wp2
    go_ret
    exact ⟨ret_bool (by rw [HN.out]; rfl), HB.out⟩
  | false =>
    by_cases h : lo = 0
    · subst h
      have h0 : ((0 : Int) == 0) = true := rfl
      go_enter Try.func26, Try.ntmps26
      go_wp2
      go_ret
      refine ⟨ret_bool ?_, HB.out⟩
      rw [HN.out]
      simp [beqz]
    · have h0 : (lo == 0) = false := by simpa using h
      go_enter Try.func26, Try.ntmps26
      go_wp2
      go_ret
      refine ⟨ret_bool ?_, HB.out⟩
      rw [HN.out]
      simp [h]
set_option maxRecDepth 20000 in
set_option maxHeartbeats 1000000 in
theorem rightSubst_calls (x : Rc) (da : Option Addr) (dn dc : Nat) (sa : Option Addr) (sn sc : Nat) (ta : Option Addr) (tn tc : Nat) (w : World) (h : RcAt w x da dn sa sn ta tn) :
    Calls Try.prog 24 #[.agg (rcCells x da dn dc sa sn sc ta tn tc)] w fun e w' => e = .returned (.bool (substR x)) ∧ Below w.heap.size w w' := by
  have hdn := h.defs.short
  have hsn := h.subst.short
  have e1 := h.defs.length
  have e2 := h.subst.length
  have HB : Hid (Below w.heap.size w (w.alloc (.cells (rcCells x da dn dc sa sn sc ta tn tc) 26))) := (Rb.start w _).low
  have HS : Hid (IntA (w.alloc (.cells (rcCells x da dn dc sa sn sc ta tn tc) 26)) sa sn x.subst ∧ dn ≤ maxLen) := ⟨h.subst.below HB.out, hdn⟩
  have HN : Hid (substR x = (inI x.letters 2 20 && (decide ((sn : Int) = x.letters * x.letters) && placesB dn x.subst))) := by show substR x = _; unfold substR; rw [e1, e2]
  unfold maxLen at hdn hsn
  clear h e1 e2
  obtain ⟨L, defs, subst, beg, fin, front, back, banded, lo, hi, states⟩ := x
  unfold rcCells at HB HS ⊢
  simp only at HN HB HS ⊢
  go_enter Try.func24, Try.ntmps24
  go_wp2_with fail
  refine (inI_calls L 2 20 _).mono ?_
  rintro e w1 ⟨rfl, rfl⟩
  cases hr : inI L 2 20 with
  | false =>
    have HE : Hid (substR ⟨L, defs, subst, beg, fin, front, back, banded, lo, hi, states⟩ = false) := by rw [HN.out, hr]; rfl
    clear hr HN
    go_wp2
    go_ret
    exact ⟨ret_bool HE.out.symm, HB.out⟩
  | true =>
    have hL := inI_iff.1 hr
    obtain ⟨l1, l2⟩ := hL
    obtain ⟨n, rfl⟩ := Int.eq_ofNat_of_zero_le (show 0 ≤ L by omega)
    have hn20 : n ≤ 20 := by omega
    have hsq : n * n ≤ 400 := by have := Nat.mul_le_mul hn20 hn20; omega
    have hsqi : (n : Int) * (n : Int) = ((n * n : Nat) : Int) := by simp
    have hm1 : 0 ≤ (n : Int) * (n : Int) := by rw [hsqi]; omega
    have hm2 : (n : Int) * (n : Int) ≤ 400 := by rw [hsqi]; omega
    rw [hr] at HN
    clear hr hsq hsqi hn20
    by_cases g : (sn : Int) = (n : Int) * (n : Int)
    · have k : ((sn : Int) == (n : Int) * (n : Int)) = true := by simpa using g
      rw [decide_eq_true g] at HN
      clear g
      go_wp2_with fail
      refine (places_calls dn subst sa sn sc _ HS.out.2 HS.out.1).mono ?_
      rintro e w2 ⟨rfl, rfl⟩
      go_wp2
      go_ret
      exact ⟨ret_bool (by rw [HN.out]; rfl), HB.out⟩
    · have k : ((sn : Int) == (n : Int) * (n : Int)) = false := by simpa using g
      rw [decide_eq_false g] at HN
      clear g
      go_wp2
      go_ret
      exact ⟨ret_bool (by rw [HN.out]; rfl), HB.out⟩
set_option maxRecDepth 20000 in
set_option maxHeartbeats 1000000 in
theorem rightEnds_calls (x : Rc) (da : Option Addr) (dn dc : Nat) (sa : Option Addr) (sn sc : Nat) (ta : Option Addr) (tn tc : Nat) (vs : List Int) (vo : Option Addr) (vn vc : Nat) (w : World) (hv : IntA w vo vn vs) :
    Calls Try.prog 25 #[.agg (rcCells x da dn dc sa sn sc ta tn tc), .slice vo vn vc] w fun e w' => e = .returned (.bool (endsR x vs)) ∧ Below w.heap.size w w' := by
  have hvn := hv.short
  have e1 := hv.length
  have HB : Hid (Below w.heap.size w (w.alloc (.cells (rcCells x da dn dc sa sn sc ta tn tc) 26))) := (Rb.start w _).low
  have HS : Hid (∀ W, Below w.heap.size w W → IntA W vo vn vs) := fun W hW => hv.below hW
  have HM : Hid (vn ≤ maxLen) := hvn
  have HN : Hid (endsR x vs = (inI x.beg 1 3 && (inI x.fin 1 3 && (placesB vn [x.front, x.back] && (decide (0 ≤ vAt vs x.front) && decide (0 ≤ vAt vs x.back)))))) := by show endsR x vs = _; unfold endsR; rw [e1]
  have HL : Hid (vs.length = vn) := e1
  unfold maxLen at hvn
  clear hv e1
  obtain ⟨L, defs, subst, beg, fin, front, back, banded, lo, hi, states⟩ := x
  unfold rcCells at HB ⊢
  simp only at HN HB ⊢
  obtain ⟨R, hR⟩ : ∃ R, endsR ⟨L, defs, subst, beg, fin, front, back, banded, lo, hi, states⟩ vs = R := ⟨_, rfl⟩
  rw [hR] at HN ⊢
  clear hR
  go_enter Try.func25, Try.ntmps25
  go_wp2_with fail
  refine (inI_calls beg 1 3 _).mono ?_
  rintro e w1 ⟨rfl, rfl⟩
  cases hr1 : inI beg 1 3 with
  | false =>
    rw [hr1] at HN
    go_wp2
    go_ret
    exact ⟨ret_bool (by rw [HN.out]; rfl), HB.out⟩
  | true =>
    rw [hr1] at HN
    clear hr1
    go_wp2_with fail
    refine (inI_calls fin 1 3 _).mono ?_
    rintro e w1 ⟨rfl, rfl⟩
    cases hr2 : inI fin 1 3 with
    | false =>
      rw [hr2] at HN
      go_wp2
      go_ret
      exact ⟨ret_bool (by rw [HN.out]; rfl), HB.out⟩
    | true =>
      rw [hr2] at HN
      clear hr2
      have HB2 : Hid (Below w.heap.size w ((w.alloc (.cells #[.int .i64 L, .slice da dn dc, .slice sa sn sc, .int .i64 beg, .int .i64 fin, .int .i64 front, .int .i64 back, .bool banded, .int .i64 lo, .int .i64 hi, .slice ta tn tc] 26)).alloc (.cells #[.int .i64 front, .int .i64 back] 3))) := HB.out.alloc (by simp) _
      go_wp2_with fail
      refine (places_calls vn [front, back] _ 2 2 _ HM.out (two_intA _ front back _ (by simp))).mono ?_
      rintro e w1 ⟨rfl, rfl⟩
      cases hr3 : placesB vn [front, back] with
      | false =>
        rw [hr3] at HN
        go_wp2
        go_ret
        exact ⟨ret_bool (by rw [HN.out]; rfl), HB2.out⟩
      | true =>
        rw [hr3] at HN
        have hp : (0 ≤ front ∧ front < vn) ∧ (0 ≤ back ∧ back < vn) := by
          have h1 := hr3
          simp only [placesB, List.all_cons, List.all_nil, Bool.and_true, Bool.and_eq_true, inI_iff] at h1
          omega
        obtain ⟨⟨f0, f1⟩, b0, b1⟩ := hp
        obtain ⟨qf, rfl⟩ := Int.eq_ofNat_of_zero_le f0
        obtain ⟨qb, rfl⟩ := Int.eq_ofNat_of_zero_le b0
        have hqf : qf < vn := by omega
        have hqb : qb < vn := by omega
        have hvf := vAt_get (vs := vs) (i := qf) (by rw [HL.out]; exact hqf)
        have hvb := vAt_get (vs := vs) (i := qb) (by rw [HL.out]; exact hqb)
        have hI := (HS.out _ HB2.out).isI
        obtain ⟨g2, o2, rfl, cf⟩ := hI qf _ hvf
        obtain ⟨g3, o3, e3, cb⟩ := hI qb _ hvb
        cases e3
        clear hr3 hI hvf hvb f0 f1 b0 b1
        generalize vAt vs (qf : Int) = zf at *
        generalize vAt vs (qb : Int) = zb at *
        by_cases hz : 0 ≤ zf
        · have k : decide (0 ≤ zf) = true := by simpa using hz
          rw [k] at HN
          go_wp2
          go_ret
          exact ⟨ret_bool (by rw [HN.out]; rfl), HB2.out⟩
        · have k : decide (0 ≤ zf) = false := by simpa using hz
          rw [k] at HN
          go_wp2
          go_ret
          exact ⟨ret_bool (by rw [HN.out]; rfl), HB2.out⟩
end Go.Proofs.Ytolehoibpnenlab
