/-
  What Check tells of any code: the document's answer; what is handed in stays as it is.
-/
import Derived.Test.YtdbfcclmmpcijaaLLocal
import Derived.Test.YtdbfcclmmpcijaaVsA
namespace Go.Proofs.Ytdbfcclmmpcijaa
open Go.RowKit

set_option maxRecDepth 20000 in
set_option maxHeartbeats 4000000 in
theorem checks_walk (c : Cd) (s : Ls) (w : World) (hc : CdIn w c s) :
    Calls Try.prog 3 #[.agg (cdCells c s)] w fun e w' => e = .returned (.bool true) ∧ Below w.heap.size w w' := by
  have HI : Hid (CdIn w c s) := hc
  have HC : Hid (CdAt w c s) := hc.at'
  clear hc
  have HX : Hid (Bx w (cdCells c s) (w.alloc (.cells #[.int .i64 c.letters, .int .i64 c.planes, .int .i64 c.regs, .int .i64 c.lo, .int .i64 c.hi, .int .i64 c.most, .slice s.t.a s.t.n s.t.c, .slice s.k.a s.k.n s.k.c, .slice s.i.a s.i.n s.i.c, .slice s.r.a s.r.n s.r.c] 26))) := Bx.start w _
  rw [show cdCells c s = #[.int .i64 c.letters, .int .i64 c.planes, .int .i64 c.regs, .int .i64 c.lo, .int .i64 c.hi, .int .i64 c.most, .slice s.t.a s.t.n s.t.c, .slice s.k.a s.k.n s.k.c, .slice s.i.a s.i.n s.i.c, .slice s.r.a s.r.n s.r.c] from rfl]
  go_enter Try.func3, Try.ntmps3
  go_wp2_with fail
  refine (weighs_calls c s _ (HC.out.below HX.out.low)).mono ?_
  rintro e w1 ⟨⟨z1, rfl, hz1⟩, hb⟩
  have HX1 : Hid (Bx w (cdCells c s) w1) := HX.out.next hb
  clear hb HX
  by_cases g1 : 2147483647 < z1
  · go_wp2
    go_ret
    exact ⟨rfl, HX1.out.low⟩
  have HZ : Hid (s.t.n ≤ 2147483647 ∧ s.k.n ≤ 2147483647 ∧ s.i.n ≤ 2147483647 ∧ s.r.n ≤ 2147483647) := hz1 (by omega)
  go_wp2_with fail
  refine (awake_calls w1).mono ?_
  rintro e w2 ⟨rfl, hb⟩
  have HX4 : Hid (Bx w (cdCells c s) w2) := HX1.out.next hb
  clear hb HX1 g1 hz1
  have HN : Hid (c.table.length = s.t.n ∧ c.consts.length = s.k.n ∧ c.cell.length = s.i.n ∧ c.arrows.length = s.r.n) := ⟨HC.out.table.length, HC.out.consts.length, HC.out.cell.length, HC.out.arrows.length⟩
  have HM : Hid (c.table.length ≤ maxLen ∧ c.consts.length ≤ maxLen ∧ c.cell.length ≤ maxLen ∧ c.arrows.length ≤ maxLen) := by
    obtain ⟨l1, l2, l3, l4⟩ := HN.out
    obtain ⟨m1, m2, m3, m4⟩ := HZ.out
    unfold maxLen
    exact ⟨by omega, by omega, by omega, by omega⟩
  have hn3 : s.i.n ≤ 2147483647 := HZ.out.2.2.1
  have HCop : Hid (∀ x1 x2 x3 x4, cdCells c (copS c x1 x2 x3 x4) = #[.int .i64 c.letters, .int .i64 c.planes, .int .i64 c.regs, .int .i64 c.lo, .int .i64 c.hi, .int .i64 c.most, .slice (some ⟨x1, 0, none⟩) s.t.n s.t.n, .slice (some ⟨x2, 0, none⟩) s.k.n s.k.n, .slice (some ⟨x3, 0, none⟩) s.i.n (s.i.n + 2), .slice (some ⟨x4, 0, none⟩) s.r.n s.r.n]) := fun x1 x2 x3 x4 => by
    obtain ⟨l1, l2, l3, l4⟩ := HN.out
    simp only [cdCells, copS, l1, l2, l3, l4]
  have c0 := HX4.out.cell 0 (.int .i64 c.letters) rfl
  have c1 := HX4.out.cell 1 (.int .i64 c.planes) rfl
  have c2 := HX4.out.cell 2 (.int .i64 c.regs) rfl
  have c3 := HX4.out.cell 3 (.int .i64 c.lo) rfl
  have c4 := HX4.out.cell 4 (.int .i64 c.hi) rfl
  have c5 := HX4.out.cell 5 (.int .i64 c.most) rfl
  have c6 := HX4.out.cell 6 (.slice s.t.a s.t.n s.t.c) rfl
  have c7 := HX4.out.cell 7 (.slice s.k.a s.k.n s.k.c) rfl
  have c8 := HX4.out.cell 8 (.slice s.i.a s.i.n s.i.c) rfl
  have c9 := HX4.out.cell 9 (.slice s.r.a s.r.n s.r.c) rfl
  go_wp2_with fail
  refine (copied_calls c s _ ⟨HC.out.below HX4.out.low, HI.out.t, HI.out.k, HI.out.i, HI.out.r⟩ HZ.out).mono ?_
  rintro e w5 ⟨x1, x2, x3, x4, rfl, hcop, hge, hb⟩
  rw [HCop.out]
  have HL6 : Hid (Lw w (w5.alloc (.cells #[.int .i64 c.letters, .int .i64 c.planes, .int .i64 c.regs, .int .i64 c.lo, .int .i64 c.hi, .int .i64 c.most, .slice (some ⟨x1, 0, none⟩) s.t.n s.t.n, .slice (some ⟨x2, 0, none⟩) s.k.n s.k.n, .slice (some ⟨x3, 0, none⟩) s.i.n (s.i.n + 2), .slice (some ⟨x4, 0, none⟩) s.r.n s.r.n] 26)) (cdCells c s) w5.heap.size #[.int .i64 c.letters, .int .i64 c.planes, .int .i64 c.regs, .int .i64 c.lo, .int .i64 c.hi, .int .i64 c.most, .slice (some ⟨x1, 0, none⟩) s.t.n s.t.n, .slice (some ⟨x2, 0, none⟩) s.k.n s.k.n, .slice (some ⟨x3, 0, none⟩) s.i.n (s.i.n + 2), .slice (some ⟨x4, 0, none⟩) s.r.n s.r.n] c x1 x2 x3 x4) :=
    ⟨below_alA (HX4.out.next hb).low _, row_next (HX4.out.next hb).box (below_new _), heap_alloc_new _ _, (HX4.out.next hb).size, hcop.next (below_new _)⟩
  clear hcop hge hb HX4
  clear c0 c1 c2 c3 c4 c5 c6 c7 c8 c9
  go_upto_region 6 with (fail)
  generalize w5.alloc (.cells #[.int .i64 c.letters, .int .i64 c.planes, .int .i64 c.regs, .int .i64 c.lo, .int .i64 c.hi, .int .i64 c.most, .slice (some ⟨x1, 0, none⟩) s.t.n s.t.n, .slice (some ⟨x2, 0, none⟩) s.k.n s.k.n, .slice (some ⟨x3, 0, none⟩) s.i.n (s.i.n + 2), .slice (some ⟨x4, 0, none⟩) s.r.n s.r.n] 26) = w6 at *
  generalize w5.heap.size = gd at *
  have HCk0 : Hid (∀ W : World, CopAt W c x1 x2 x3 x4 → CdAt W c (copS c x1 x2 x3 x4)) := fun W hW => hW.at' HM.out.1 HM.out.2.1 HM.out.2.2.1 HM.out.2.2.2
  have HCk := check_calls c (copS c x1 x2 x3 x4) w6 (HCk0.out _ HL6.out.cop)
  rw [HCop.out] at HCk
  have HCk2 : Hid _ := HCk
  clear HCk
  have d0 := HL6.out.d 0 (.int .i64 c.letters) rfl
  have d1 := HL6.out.d 1 (.int .i64 c.planes) rfl
  have d2 := HL6.out.d 2 (.int .i64 c.regs) rfl
  have d3 := HL6.out.d 3 (.int .i64 c.lo) rfl
  have d4 := HL6.out.d 4 (.int .i64 c.hi) rfl
  have d5 := HL6.out.d 5 (.int .i64 c.most) rfl
  have d6 := HL6.out.d 6 (.slice (some ⟨x1, 0, none⟩) s.t.n s.t.n) rfl
  have d7 := HL6.out.d 7 (.slice (some ⟨x2, 0, none⟩) s.k.n s.k.n) rfl
  have d8 := HL6.out.d 8 (.slice (some ⟨x3, 0, none⟩) s.i.n (s.i.n + 2)) rfl
  have d9 := HL6.out.d 9 (.slice (some ⟨x4, 0, none⟩) s.r.n s.r.n) rfl
  go_wp2_with fail
  refine Calls.mono HCk2.out ?_
  rintro e w7 ⟨rfl, hb⟩
  have HL7 : Hid _ := HL6.out.next hb
  clear hb HL6 HCk2
  clear d0 d1 d2 d3 d4 d5 d6 d7 d8 d9
  have c0 := HL7.out.cell 0 (.int .i64 c.letters) rfl
  have c1 := HL7.out.cell 1 (.int .i64 c.planes) rfl
  have c2 := HL7.out.cell 2 (.int .i64 c.regs) rfl
  have c3 := HL7.out.cell 3 (.int .i64 c.lo) rfl
  have c4 := HL7.out.cell 4 (.int .i64 c.hi) rfl
  have c5 := HL7.out.cell 5 (.int .i64 c.most) rfl
  have c6 := HL7.out.cell 6 (.slice s.t.a s.t.n s.t.c) rfl
  have c7 := HL7.out.cell 7 (.slice s.k.a s.k.n s.k.c) rfl
  have c8 := HL7.out.cell 8 (.slice s.i.a s.i.n s.i.c) rfl
  have c9 := HL7.out.cell 9 (.slice s.r.a s.r.n s.r.c) rfl
  go_wp2_with fail
  refine (dcheck_calls c s _ (HC.out.below HL7.out.low)).mono ?_
  rintro e w8 ⟨rfl, hb⟩
  have HL8 : Hid _ := HL7.out.next hb
  clear hb HL7
  clear c0 c1 c2 c3 c4 c5 c6 c7 c8 c9
  obtain ⟨at1, hat⟩ : ∃ x, (chkB c).1 = x := ⟨_, rfl⟩
  obtain ⟨er, her⟩ : ∃ x, (chkB c).2 = x := ⟨_, rfl⟩
  rw [hat, her]
  clear hat her
  have c0 := HL8.out.cell 0 (.int .i64 c.letters) rfl
  have c1 := HL8.out.cell 1 (.int .i64 c.planes) rfl
  have c2 := HL8.out.cell 2 (.int .i64 c.regs) rfl
  have c3 := HL8.out.cell 3 (.int .i64 c.lo) rfl
  have c4 := HL8.out.cell 4 (.int .i64 c.hi) rfl
  have c5 := HL8.out.cell 5 (.int .i64 c.most) rfl
  have c6 := HL8.out.cell 6 (.slice s.t.a s.t.n s.t.c) rfl
  have c7 := HL8.out.cell 7 (.slice s.k.a s.k.n s.k.c) rfl
  have c8 := HL8.out.cell 8 (.slice s.i.a s.i.n s.i.c) rfl
  have c9 := HL8.out.cell 9 (.slice s.r.a s.r.n s.r.c) rfl
  have d0 := HL8.out.d 0 (.int .i64 c.letters) rfl
  have d1 := HL8.out.d 1 (.int .i64 c.planes) rfl
  have d2 := HL8.out.d 2 (.int .i64 c.regs) rfl
  have d3 := HL8.out.d 3 (.int .i64 c.lo) rfl
  have d4 := HL8.out.d 4 (.int .i64 c.hi) rfl
  have d5 := HL8.out.d 5 (.int .i64 c.most) rfl
  have d6 := HL8.out.d 6 (.slice (some ⟨x1, 0, none⟩) s.t.n s.t.n) rfl
  have d7 := HL8.out.d 7 (.slice (some ⟨x2, 0, none⟩) s.k.n s.k.n) rfl
  have d8 := HL8.out.d 8 (.slice (some ⟨x3, 0, none⟩) s.i.n (s.i.n + 2)) rfl
  have d9 := HL8.out.d 9 (.slice (some ⟨x4, 0, none⟩) s.r.n s.r.n) rfl
  have HSm := same_calls c (copS c x1 x2 x3 x4) s w8 (HCk0.out _ HL8.out.cop) (HC.out.below HL8.out.low)
  rw [HCop.out] at HSm
  have HSm2 : Hid _ := HSm
  clear HSm
  go_wp2_with fail
  refine Calls.mono HSm2.out ?_
  rintro e w9 ⟨rfl, hb⟩
  have HL9 : Hid _ := HL8.out.next hb
  clear hb HL8 HSm2
  clear c0 c1 c2 c3 c4 c5 c6 c7 c8 c9
  clear d0 d1 d2 d3 d4 d5 d6 d7 d8 d9
  have x8 := HL9.out.cell 8 (.slice s.i.a s.i.n s.i.c) rfl
  have y8 := HL9.out.d 8 (.slice (some ⟨x3, 0, none⟩) s.i.n (s.i.n + 2)) rfl
  have y79 : w9.cell? ⟨x3, s.i.n * 4, none⟩ = some (.int .i64 79) := by
    refine cell_block HL9.out.cop.i _ _ ?_
    have hvl : (qdVals c.cell).length = s.i.n * 4 := by rw [qdVals_length, HN.out.2.2.1]
    have := get_end hvl 0 [Value.int .i64 79, .int .i64 0, .int .i64 0, .int .i64 0, .int .i64 0, .int .i64 0, .int .i64 0, .int .i64 0] _ rfl
    rw [Nat.add_zero] at this
    rw [List.getElem?_toArray]
    exact this
  have n4 : (at1 == at1) = true := by simp
  have n5 : (er == er) = true := by simp
  obtain ⟨n1, hn1⟩ : ∃ x, s.i.n + 1 = x := ⟨_, rfl⟩
  have hni : (s.i.n : Int) + 1 = (n1 : Int) := by omega
  have hnl : s.i.n < n1 := by omega
  have hnc : n1 ≤ s.i.n + 2 := by omega
  clear hn1
  have HBf : Hid (Below w.heap.size w w9) := HL9.out.low
  clear HL9
  go_wp2
  go_ret
  exact ⟨rfl, HBf.out⟩


namespace verifyChecks
open Go.ChangeShapes Go.WideShapes Go.ChangeAt Go.RowKit
open Go.ChangeMaps (open_string shut_string)
theorem own : ownKnob Try.prog.godebug = none := by kernel_rfl
theorem laidOut : laidOutB Try.prog = true := by kernel_rfl
set_option maxRecDepth 100000 in
theorem lifted (os : Os) (started : os.Started) (H : Type) (enc : TypeId × Value → H) :
    ReturnsInHanded {} Try.checked os 3 .any (Rows.verifyChecksSpec.pre6 enc Try.prog Try.f3 Rows.verifyChecksRow.domain false) (Rows.verifyChecksSpec.post enc Try.prog Try.f3 false true false false) := by
  refine returnsInHanded_of_change_sized (C := Try.checked) own started (by kernel_rfl) Try.func3
    (ChangeSpec.witness6 (enc := enc) (C := Try.checked) false ⟨#[], #[.agg #[.int .i64 0, .int .i64 0, .int .i64 0, .int .i64 0, .int .i64 0, .int .i64 0, .slice none 0 0, .slice none 0 0, .slice none 0 0, .slice none 0 0]], []⟩ 8 (by kernel_rfl) (by kernel_rfl) (by kernel_rfl) (by kernel_rfl)) ?_
  intro W base args ds gs before hval0 hW _ hsz0 _
  have hval : ∀ (j : Nat) t v, Try.f3.params[j]? = some t → args[j]? = some v → Value.okWide Try.prog W .any base t v := hval0
  have hsz : (DataW.weightsEach Try.prog (Try.f3.params.toList ++ Rows.verifyChecksSpec.plain.varTypes Try.prog) (ds ++ gs)).all (· ≤ reachBytes) = true := hsz0
  have hW' := hW
  obtain ⟨p, q, hA0, hV, rfl, hfz, hnd⟩ := hW
  have hA : DataW.TrodAll enc Try.prog W 0 (fun _ => true) true Try.f3.params.toList args.toList ds p := hA0
  rw [Try.params3] at hA hval hsz
  obtain ⟨v0, vs0, d0, ds0, p0, q0, hargs, rfl, rfl, h0, r0⟩ := trodAll_cons hA
  obtain ⟨rfl, rfl, rfl⟩ := trodAll_nil r0
  obtain rfl : args = #[v0] := by cases args; simp_all
  obtain ⟨rfl, rfl⟩ := trodVars_none hV
  have hw : ∀ (j : Nat) (t : TypeId) (d : DataW H), ([26] ++ Rows.verifyChecksSpec.plain.varTypes Try.prog)[j]? = some t → ([d0] ++ [])[j]? = some d → ∀ n ∈ d.weights Try.prog t, n ≤ reachBytes := fun j t d ht hd n hn =>
    of_decide_eq_true (List.all_eq_true.1 hsz _ (DataW.weights_mem_each ht hd n hn))
  obtain ⟨cs0, rfl, hcs0⟩ := okWide_struct Try.underlying26 (hval 0 26 v0 rfl rfl)
  have lt0 : ∀ x ∈ p0, x.block < W.heap.size := by obtain ⟨m, hm⟩ := h0; exact DataW.trod_lt m _ _ _ hm
  obtain ⟨z0, s0, e0, in0⟩ := cd_in hcs0 h0
  subst e0
  clear hA0 hval0
  refine (checks_walk z0 s0 W in0).mono fun e W' ⟨he, bel⟩ => ?_
  subst he
  exact ⟨_, rfl, _, _, _, [], _, [], hW', trodAll_mk1 (shut_bool Try.underlying4 _), (trodAll_cons_mk (Below.trod laidOut (by kernel_rfl) (of_decide_eq_true (by kernel_rfl)) h0 bel lt0) trodAll_mk0), rfl, bel.frame _, fun h => by cases h⟩
end verifyChecks

theorem verifyChecks_holds : Rows.VerifyChecksSaid :=
  OpenClaim.holds_of_wide 3 Try.f3 rfl rfl rfl rfl rfl rfl rfl ⟨rfl, rfl, rfl, rfl, rfl⟩ rfl rfl rfl rfl rfl (by kernel_rfl) Try.func3 (by kernel_rfl)
    (of_decide_eq_true (by kernel_rfl)) (by unfold Func.isWrapper; first | (rw [if_pos (by decide +kernel)]; kernel_rfl) | (rw [if_neg (by decide +kernel)]; exact ⟨rfl, rfl⟩))
    (fun os started H enc _ => verifyChecks.lifted os started H enc)

end Go.Proofs.Ytdbfcclmmpcijaa
