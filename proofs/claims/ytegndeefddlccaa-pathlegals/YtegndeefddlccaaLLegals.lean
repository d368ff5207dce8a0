/-
  Proved: whatever model, sequences and path are handed in, PathLegals answers true: path.Legal and path.Score tell what the document's own tell; no condition but that what is handed in can be read.
-/
import Derived.Test.YtegndeefddlccaaPxA
import Derived.Test.YtegndeefddlccaaPqG
import Derived.Test.YtegndeefddlccaaPxO
import Derived.Test.YtegndeefddlccaaRows
import Derived.ProofKit
import Derived.OpenShut
import Derived.ShutString
import Derived.ChangeOld
import Derived.Below
namespace Go.Proofs.Ytegndeefddlccaa
open Go.RowKit

theorem ints_in {H : Type} {enc : TypeId × Value → H} {W : World} {v : Value} {d : DataW H} {p : List MemPlace} (h : DataW.Trod enc Try.prog W 0 (fun _ => true) true 29 v d p) (hw : ∀ n ∈ d.weights Try.prog 29, n ≤ reachBytes) :
    ∃ ao len cap l, v.cells.toList = [.slice ao len cap] ∧ len ≤ 17592186044416 ∧ IntsAt W ao len l := by
  obtain ⟨fuel, hf⟩ := h
  exact open_int22 hf hw
set_option maxRecDepth 20000 in
set_option maxHeartbeats 2000000 in
theorem legals_walk (m : Md) (sa : Option Addr) (sn sc : Nat) (ga : Option Addr) (gn gc : Nat) (xa : Option Addr) (xn xc : Nat) (xs : List Int) (ya : Option Addr) (yn yc : Nat) (ys : List Int) (i0 j0 : Int) (s : ByteArray) (w : World) (h : MdIn w m sa sn ga gn) (hx : IntsAt w xa xn xs) (_hxl : xn ≤ 17592186044416) (hy : IntsAt w ya yn ys) (_hyl : yn ≤ 17592186044416) (hs : s.size ≤ 140737488351232) (_wi : (Lit.int .i64 i0).wf = true) (_wj : (Lit.int .i64 j0).wf = true) :
    Calls Try.prog 4 #[.agg (mdCells m sa sn sc ga gn gc), .slice xa xn xc, .slice ya yn yc, .agg #[.int .i64 i0, .int .i64 j0, .string s]] w fun e w' => e = .returned (.bool true) ∧ Below w.heap.size w w' := by
  have HM : Hid (MdAt w m sa sn ga gn) := h.at'
  have HX : Hid (IntsAt w xa xn xs) := hx
  have HY : Hid (IntsAt w ya yn ys) := hy
  clear h hx hy
  have hsm : s.size ≤ maxLen := by unfold maxLen; omega
  obtain ⟨re, hre⟩ : ∃ r, refE m xs ys = r := ⟨_, rfl⟩
  obtain ⟨a, ha⟩ : ∃ r, (decide (re = 0) && allowsB m xs.length ys.length ⟨i0, j0, s.data.toList⟩) = r := ⟨_, rfl⟩
  obtain ⟨sv, hsv⟩ : ∃ r, scV m xs ys ⟨i0, j0, s.data.toList⟩ = r := ⟨_, rfl⟩
  obtain ⟨se, hse⟩ : ∃ r, scE m xs ys ⟨i0, j0, s.data.toList⟩ = r := ⟨_, rfl⟩
  have C1 : Hid (∀ W, Below w.heap.size w W → Calls Try.prog 12 #[.agg #[.int .i64 m.letters, .slice sa sn sc, .slice ga gn gc, .int .i64 m.mode, .bool m.banded, .int .i64 m.lo, .int .i64 m.hi, .int .i64 m.front, .int .i64 m.back, .int .i64 m.least], .slice xa xn xc, .slice ya yn yc, .agg #[.int .i64 i0, .int .i64 j0, .string s]] W fun e w' => e = .returned (.tuple #[.bool a, .int .i64 re]) ∧ Below W.heap.size W w') := fun W hb => by
    have := legal_calls m sa sn sc ga gn gc xa xn xc ya yn yc xs ys i0 j0 s W (HM.out.below hb) (HX.out.below hb) (HY.out.below hb) hsm
    rw [hre, ha] at this
    exact this
  have C2 : Hid (∀ W, Below w.heap.size w W → Calls Try.prog 13 #[.agg #[.int .i64 m.letters, .slice sa sn sc, .slice ga gn gc, .int .i64 m.mode, .bool m.banded, .int .i64 m.lo, .int .i64 m.hi, .int .i64 m.front, .int .i64 m.back, .int .i64 m.least], .slice xa xn xc, .slice ya yn yc, .agg #[.int .i64 i0, .int .i64 j0, .string s]] W fun e w' => e = .returned (.tuple #[.bool a, .int .i64 re]) ∧ Below W.heap.size W w') := fun W hb => by
    have := legalD_calls m sa sn sc ga gn gc xa xn xc ya yn yc xs ys i0 j0 s W (HM.out.below hb) (HX.out.below hb) (HY.out.below hb) hsm
    rw [hre, ha] at this
    exact this
  have C3 : Hid (∀ W, Below w.heap.size w W → Calls Try.prog 14 #[.agg #[.int .i64 m.letters, .slice sa sn sc, .slice ga gn gc, .int .i64 m.mode, .bool m.banded, .int .i64 m.lo, .int .i64 m.hi, .int .i64 m.front, .int .i64 m.back, .int .i64 m.least], .slice xa xn xc, .slice ya yn yc, .agg #[.int .i64 i0, .int .i64 j0, .string s]] W fun e w' => e = .returned (.tuple #[.int .i64 sv, .int .i64 se]) ∧ Below W.heap.size W w') := fun W hb => by
    have := score_calls m sa sn sc ga gn gc xa xn xc ya yn yc xs ys i0 j0 s W (HM.out.below hb) (HX.out.below hb) (HY.out.below hb) hsm
    rw [hsv, hse] at this
    exact this
  have C4 : Hid (∀ W, Below w.heap.size w W → Calls Try.prog 15 #[.agg #[.int .i64 m.letters, .slice sa sn sc, .slice ga gn gc, .int .i64 m.mode, .bool m.banded, .int .i64 m.lo, .int .i64 m.hi, .int .i64 m.front, .int .i64 m.back, .int .i64 m.least], .slice xa xn xc, .slice ya yn yc, .agg #[.int .i64 i0, .int .i64 j0, .string s]] W fun e w' => e = .returned (.tuple #[.int .i64 sv, .int .i64 se]) ∧ Below W.heap.size W w') := fun W hb => by
    have := scoreD_calls m sa sn sc ga gn gc xa xn xc ya yn yc xs ys i0 j0 s W (HM.out.below hb) (HX.out.below hb) (HY.out.below hb) hsm
    rw [hsv, hse] at this
    exact this
  clear hre ha hsv hse HM HX HY hs hsm
  have HB0 : Hid (S2 w (mdCells m sa sn sc ga gn gc) #[.int .i64 i0, .int .i64 j0, .string s] ((w.alloc (.cells (mdCells m sa sn sc ga gn gc) 31)).alloc (.cells #[.int .i64 i0, .int .i64 j0, .string s] 33))) := S2.start w _ _
  rw [show mdCells m sa sn sc ga gn gc = #[.int .i64 m.letters, .slice sa sn sc, .slice ga gn gc, .int .i64 m.mode, .bool m.banded, .int .i64 m.lo, .int .i64 m.hi, .int .i64 m.front, .int .i64 m.back, .int .i64 m.least] from rfl]
  go_enter Try.func4, Try.ntmps4
  go_wp2_with fail
  refine (awake_calls _).mono ?_
  rintro e w1 ⟨rfl, hb1⟩
  have HB1 : Hid (S2 w (mdCells m sa sn sc ga gn gc) #[.int .i64 i0, .int .i64 j0, .string s] w1) := HB0.out.next hb1
  clear hb1 HB0
  have c0 := cell_block HB1.out.box 0 (.int .i64 m.letters) rfl; have c1 := cell_block HB1.out.box 1 (.slice sa sn sc) rfl; have c2 := cell_block HB1.out.box 2 (.slice ga gn gc) rfl; have c3 := cell_block HB1.out.box 3 (.int .i64 m.mode) rfl; have c4 := cell_block HB1.out.box 4 (.bool m.banded) rfl; have c5 := cell_block HB1.out.box 5 (.int .i64 m.lo) rfl; have c6 := cell_block HB1.out.box 6 (.int .i64 m.hi) rfl; have c7 := cell_block HB1.out.box 7 (.int .i64 m.front) rfl; have c8 := cell_block HB1.out.box 8 (.int .i64 m.back) rfl; have c9 := cell_block HB1.out.box 9 (.int .i64 m.least) rfl; have cp0 := cell_block HB1.out.p 0 (.int .i64 i0) rfl; have cp1 := cell_block HB1.out.p 1 (.int .i64 j0) rfl; have cp2 := cell_block HB1.out.p 2 (.string s) rfl
  go_wp2_with fail
  with_reducible refine (C1.out _ HB1.out.low).mono ?_
  rintro e w2 ⟨rfl, hb2⟩
  have HB2 : Hid (S2 w (mdCells m sa sn sc ga gn gc) #[.int .i64 i0, .int .i64 j0, .string s] w2) := HB1.out.next hb2
  clear hb2 HB1 C1
  clear c0 c1 c2 c3 c4 c5 c6 c7 c8 c9 cp0 cp1 cp2
  have c0 := cell_block HB2.out.box 0 (.int .i64 m.letters) rfl; have c1 := cell_block HB2.out.box 1 (.slice sa sn sc) rfl; have c2 := cell_block HB2.out.box 2 (.slice ga gn gc) rfl; have c3 := cell_block HB2.out.box 3 (.int .i64 m.mode) rfl; have c4 := cell_block HB2.out.box 4 (.bool m.banded) rfl; have c5 := cell_block HB2.out.box 5 (.int .i64 m.lo) rfl; have c6 := cell_block HB2.out.box 6 (.int .i64 m.hi) rfl; have c7 := cell_block HB2.out.box 7 (.int .i64 m.front) rfl; have c8 := cell_block HB2.out.box 8 (.int .i64 m.back) rfl; have c9 := cell_block HB2.out.box 9 (.int .i64 m.least) rfl; have cp0 := cell_block HB2.out.p 0 (.int .i64 i0) rfl; have cp1 := cell_block HB2.out.p 1 (.int .i64 j0) rfl; have cp2 := cell_block HB2.out.p 2 (.string s) rfl
  go_wp2_with fail
  with_reducible refine (C2.out _ HB2.out.low).mono ?_
  rintro e w3 ⟨rfl, hb3⟩
  have HB3 : Hid (S2 w (mdCells m sa sn sc ga gn gc) #[.int .i64 i0, .int .i64 j0, .string s] w3) := HB2.out.next hb3
  clear hb3 HB2 C2
  clear c0 c1 c2 c3 c4 c5 c6 c7 c8 c9 cp0 cp1 cp2
  have c0 := cell_block HB3.out.box 0 (.int .i64 m.letters) rfl; have c1 := cell_block HB3.out.box 1 (.slice sa sn sc) rfl; have c2 := cell_block HB3.out.box 2 (.slice ga gn gc) rfl; have c3 := cell_block HB3.out.box 3 (.int .i64 m.mode) rfl; have c4 := cell_block HB3.out.box 4 (.bool m.banded) rfl; have c5 := cell_block HB3.out.box 5 (.int .i64 m.lo) rfl; have c6 := cell_block HB3.out.box 6 (.int .i64 m.hi) rfl; have c7 := cell_block HB3.out.box 7 (.int .i64 m.front) rfl; have c8 := cell_block HB3.out.box 8 (.int .i64 m.back) rfl; have c9 := cell_block HB3.out.box 9 (.int .i64 m.least) rfl; have cp0 := cell_block HB3.out.p 0 (.int .i64 i0) rfl; have cp1 := cell_block HB3.out.p 1 (.int .i64 j0) rfl; have cp2 := cell_block HB3.out.p 2 (.string s) rfl
  go_wp2_with fail
  with_reducible refine (C3.out _ HB3.out.low).mono ?_
  rintro e w4 ⟨rfl, hb4⟩
  have HB4 : Hid (S2 w (mdCells m sa sn sc ga gn gc) #[.int .i64 i0, .int .i64 j0, .string s] w4) := HB3.out.next hb4
  clear hb4 HB3 C3
  clear c0 c1 c2 c3 c4 c5 c6 c7 c8 c9 cp0 cp1 cp2
  have c0 := cell_block HB4.out.box 0 (.int .i64 m.letters) rfl; have c1 := cell_block HB4.out.box 1 (.slice sa sn sc) rfl; have c2 := cell_block HB4.out.box 2 (.slice ga gn gc) rfl; have c3 := cell_block HB4.out.box 3 (.int .i64 m.mode) rfl; have c4 := cell_block HB4.out.box 4 (.bool m.banded) rfl; have c5 := cell_block HB4.out.box 5 (.int .i64 m.lo) rfl; have c6 := cell_block HB4.out.box 6 (.int .i64 m.hi) rfl; have c7 := cell_block HB4.out.box 7 (.int .i64 m.front) rfl; have c8 := cell_block HB4.out.box 8 (.int .i64 m.back) rfl; have c9 := cell_block HB4.out.box 9 (.int .i64 m.least) rfl; have cp0 := cell_block HB4.out.p 0 (.int .i64 i0) rfl; have cp1 := cell_block HB4.out.p 1 (.int .i64 j0) rfl; have cp2 := cell_block HB4.out.p 2 (.string s) rfl
  go_wp2_with fail
  with_reducible refine (C4.out _ HB4.out.low).mono ?_
  rintro e w5 ⟨rfl, hb5⟩
  have HB5 : Hid (S2 w (mdCells m sa sn sc ga gn gc) #[.int .i64 i0, .int .i64 j0, .string s] w5) := HB4.out.next hb5
  clear hb5 HB4 C4
  clear c0 c1 c2 c3 c4 c5 c6 c7 c8 c9 cp0 cp1 cp2
  have c0 := cell_block HB5.out.box 0 (.int .i64 m.letters) rfl; have c1 := cell_block HB5.out.box 1 (.slice sa sn sc) rfl; have c2 := cell_block HB5.out.box 2 (.slice ga gn gc) rfl; have c3 := cell_block HB5.out.box 3 (.int .i64 m.mode) rfl; have c4 := cell_block HB5.out.box 4 (.bool m.banded) rfl; have c5 := cell_block HB5.out.box 5 (.int .i64 m.lo) rfl; have c6 := cell_block HB5.out.box 6 (.int .i64 m.hi) rfl; have c7 := cell_block HB5.out.box 7 (.int .i64 m.front) rfl; have c8 := cell_block HB5.out.box 8 (.int .i64 m.back) rfl; have c9 := cell_block HB5.out.box 9 (.int .i64 m.least) rfl; have cp0 := cell_block HB5.out.p 0 (.int .i64 i0) rfl; have cp1 := cell_block HB5.out.p 1 (.int .i64 j0) rfl; have cp2 := cell_block HB5.out.p 2 (.string s) rfl
  have ea : (a == a) = true := beq_self_eq_true a
  have er : (re == re) = true := beq_self_eq_true re
  have es : (sv == sv) = true := beq_self_eq_true sv
  have ee : (se == se) = true := beq_self_eq_true se
  go_wp2
  go_ret
  exact ⟨rfl, HB5.out.low⟩


namespace pathLegals
open Go.ChangeShapes Go.WideShapes Go.ChangeAt Go.RowKit
open Go.ChangeMaps (open_string shut_string)
theorem own : ownKnob Try.prog.godebug = none := by kernel_rfl
theorem laidOut : laidOutB Try.prog = true := by kernel_rfl
set_option maxRecDepth 100000 in
theorem lifted (os : Os) (started : os.Started) (H : Type) (enc : TypeId × Value → H) :
    ReturnsInHanded {} Try.checked os 4 .any (Rows.pathLegalsSpec.pre6 enc Try.prog Try.f4 Rows.pathLegalsRow.domain false) (Rows.pathLegalsSpec.post enc Try.prog Try.f4 false true false false) := by
  refine returnsInHanded_of_change_sized (C := Try.checked) own started (by kernel_rfl) Try.func4
    (ChangeSpec.witness6 (enc := enc) (C := Try.checked) false ⟨#[], #[.agg #[.int .i64 0, .slice none 0 0, .slice none 0 0, .int .i64 0, .bool false, .int .i64 0, .int .i64 0, .int .i64 0, .int .i64 0, .int .i64 0], .slice none 0 0, .slice none 0 0, .agg #[.int .i64 0, .int .i64 0, .string { data := #[] }]], []⟩ 8 (by kernel_rfl) (by kernel_rfl) (by kernel_rfl) (by kernel_rfl)) ?_
  intro W base args ds gs before hval0 hW _ hsz0 _
  have hval : ∀ (j : Nat) t v, Try.f4.params[j]? = some t → args[j]? = some v → Value.okWide Try.prog W .any base t v := hval0
  have hsz : (DataW.weightsEach Try.prog (Try.f4.params.toList ++ Rows.pathLegalsSpec.plain.varTypes Try.prog) (ds ++ gs)).all (· ≤ reachBytes) = true := hsz0
  have hW' := hW
  obtain ⟨p, q, hA0, hV, rfl, hfz, hnd⟩ := hW
  have hA : DataW.TrodAll enc Try.prog W 0 (fun _ => true) true Try.f4.params.toList args.toList ds p := hA0
  rw [Try.params4] at hA hval hsz
  obtain ⟨v0, vs0, d0, ds0, p0, q0, hargs, rfl, rfl, h0, r0⟩ := trodAll_cons hA
  obtain ⟨v1, vs1, d1, ds1, p1, q1, rfl, rfl, rfl, h1, r1⟩ := trodAll_cons r0
  obtain ⟨v2, vs2, d2, ds2, p2, q2, rfl, rfl, rfl, h2, r2⟩ := trodAll_cons r1
  obtain ⟨v3, vs3, d3, ds3, p3, q3, rfl, rfl, rfl, h3, r3⟩ := trodAll_cons r2
  obtain ⟨rfl, rfl, rfl⟩ := trodAll_nil r3
  obtain rfl : args = #[v0, v1, v2, v3] := by cases args; simp_all
  obtain ⟨rfl, rfl⟩ := trodVars_none hV
  have hw : ∀ (j : Nat) (t : TypeId) (d : DataW H), ([31, 29, 29, 33] ++ Rows.pathLegalsSpec.plain.varTypes Try.prog)[j]? = some t → ([d0, d1, d2, d3] ++ [])[j]? = some d → ∀ n ∈ d.weights Try.prog t, n ≤ reachBytes := fun j t d ht hd n hn =>
    of_decide_eq_true (List.all_eq_true.1 hsz _ (DataW.weights_mem_each ht hd n hn))
  obtain ⟨cs0, rfl, hcs0⟩ := okWide_struct Try.underlying31 (hval 0 31 v0 rfl rfl)
  have lt0 : ∀ x ∈ p0, x.block < W.heap.size := by obtain ⟨m, hm⟩ := h0; exact DataW.trod_lt m _ _ _ hm
  obtain ⟨m0, sa0, sn0, sc0, ga0, gn0, gc0, e0, in0⟩ := md_in hcs0 h0 (hw 0 31 d0 rfl rfl)
  subst e0
  have lt1 : ∀ x ∈ p1, x.block < W.heap.size := by obtain ⟨m, hm⟩ := h1; exact DataW.trod_lt m _ _ _ hm
  obtain ⟨ao1, len1, cap1, l1, e1, few1, in1⟩ := ints_in h1 (hw 1 29 d1 rfl rfl)
  obtain ⟨ax1, nx1, cx1, rfl⟩ := okWide_slice Try.underlying29 (hval 1 29 v1 rfl rfl)
  obtain ⟨rfl, rfl, rfl⟩ : ax1 = ao1 ∧ nx1 = len1 ∧ cx1 = cap1 := by have e := e1; simp [Value.cells] at e; exact e
  have lt2 : ∀ x ∈ p2, x.block < W.heap.size := by obtain ⟨m, hm⟩ := h2; exact DataW.trod_lt m _ _ _ hm
  obtain ⟨ao2, len2, cap2, l2, e2, few2, in2⟩ := ints_in h2 (hw 2 29 d2 rfl rfl)
  obtain ⟨ax2, nx2, cx2, rfl⟩ := okWide_slice Try.underlying29 (hval 2 29 v2 rfl rfl)
  obtain ⟨rfl, rfl, rfl⟩ : ax2 = ao2 ∧ nx2 = len2 ∧ cx2 = cap2 := by have e := e2; simp [Value.cells] at e; exact e
  obtain ⟨cs3, rfl, hcs3⟩ := okWide_struct Try.underlying33 (hval 3 33 v3 rfl rfl)
  have lt3 : ∀ x ∈ p3, x.block < W.heap.size := by obtain ⟨m, hm⟩ := h3; exact DataW.trod_lt m _ _ _ hm
  obtain ⟨pi3, pj3, ps3, e3, in3, wi3, wj3⟩ := path_in hcs3 h3 (hw 3 33 d3 rfl rfl)
  subst e3
  clear hA0 hval0
  refine (legals_walk m0 sa0 sn0 sc0 ga0 gn0 gc0 ax1 nx1 cx1 l1 ax2 nx2 cx2 l2 pi3 pj3 ps3 W in0 in1 few1 in2 few2 in3 wi3 wj3).mono fun e W' ⟨he, bel⟩ => ?_
  subst he
  exact ⟨_, rfl, _, _, _, [], _, [], hW', trodAll_mk1 (shut_bool Try.underlying4 _), (trodAll_cons_mk (Below.trod laidOut (by kernel_rfl) (of_decide_eq_true (by kernel_rfl)) h0 bel lt0) (trodAll_cons_mk (Below.trod laidOut (by kernel_rfl) (of_decide_eq_true (by kernel_rfl)) h1 bel lt1) (trodAll_cons_mk (Below.trod laidOut (by kernel_rfl) (of_decide_eq_true (by kernel_rfl)) h2 bel lt2) (trodAll_cons_mk (Below.trod laidOut (by kernel_rfl) (of_decide_eq_true (by kernel_rfl)) h3 bel lt3) trodAll_mk0)))), rfl, bel.frame _, fun h => by cases h⟩
end pathLegals

theorem pathLegals_holds : Rows.PathLegalsSaid :=
  OpenClaim.holds_of_wide 4 Try.f4 rfl rfl rfl rfl rfl rfl rfl ⟨rfl, rfl, rfl, rfl, rfl⟩ rfl rfl rfl rfl rfl (by kernel_rfl) Try.func4 (by kernel_rfl)
    (of_decide_eq_true (by kernel_rfl)) (by unfold Func.isWrapper; first | (rw [if_pos (by decide +kernel)]; kernel_rfl) | (rw [if_neg (by decide +kernel)]; exact ⟨rfl, rfl⟩))
    (fun os started H enc _ => pathLegals.lifted os started H enc)

end Go.Proofs.Ytegndeefddlccaa
