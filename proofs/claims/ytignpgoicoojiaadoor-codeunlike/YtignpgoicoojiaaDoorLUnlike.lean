/-
  Unlike codes have unlike bytes; none has too many: of any two codes.
-/
import Derived.Test.YtignpgoicoojiaaDoorRows
import Derived.Test.YtignpgoicoojiaaDoorCards
import Derived.Test.YtignpgoicoojiaaDoorTie
import Derived.Test.YtignpgoicoojiaaDoorOpn
import Derived.Test.YtignpgoicoojiaaDoorInj
import Derived.Test.YtignpgoicoojiaaDoorSam
import Derived.Test.YtignpgoicoojiaaDoorAwk
import Derived.Test.YtignpgoicoojiaaDoorRtC
namespace Go.Proofs.YtignpgoicoojiaaDoor
open Go.RowKit

set_option maxRecDepth 20000 in
set_option maxHeartbeats 4000000 in
theorem unlike_walk (c : Cd) (s : Ls) (d : Cd) (t : Ls) (w : World) (htab : TabOk w) (hc : CdIn w c s) (hd : CdIn w d t) :
    Calls Tryd.prog 8 #[.agg (cdCells c s), .agg (cdCells d t)] w fun e w' => e = .returned (.bool true) ∧ Below w.heap.size w w' := by
  have HT : Hid (TabOk w) := htab
  have HC : Hid (CdAt w c s) := hc.at'
  have HD : Hid (CdAt w d t) := hd.at'
  clear htab hc hd
  have HX0 : Hid (B2 w (cdCells c s) (cdCells d t) ((w.alloc (.cells #[.int .i64 c.letters, .int .i64 c.planes, .int .i64 c.regs, .int .i64 c.lo, .int .i64 c.hi, .int .i64 c.most, .slice s.t.a s.t.n s.t.c, .slice s.k.a s.k.n s.k.c, .slice s.i.a s.i.n s.i.c, .slice s.r.a s.r.n s.r.c] 26)).alloc (.cells #[.int .i64 d.letters, .int .i64 d.planes, .int .i64 d.regs, .int .i64 d.lo, .int .i64 d.hi, .int .i64 d.most, .slice t.t.a t.t.n t.t.c, .slice t.k.a t.k.n t.k.c, .slice t.i.a t.i.n t.i.c, .slice t.r.a t.r.n t.r.c] 26))) := B2.start w _ _
  rw [show cdCells c s = #[.int .i64 c.letters, .int .i64 c.planes, .int .i64 c.regs, .int .i64 c.lo, .int .i64 c.hi, .int .i64 c.most, .slice s.t.a s.t.n s.t.c, .slice s.k.a s.k.n s.k.c, .slice s.i.a s.i.n s.i.c, .slice s.r.a s.r.n s.r.c] from rfl, show cdCells d t = #[.int .i64 d.letters, .int .i64 d.planes, .int .i64 d.regs, .int .i64 d.lo, .int .i64 d.hi, .int .i64 d.most, .slice t.t.a t.t.n t.t.c, .slice t.k.a t.k.n t.k.c, .slice t.i.a t.i.n t.i.c, .slice t.r.a t.r.n t.r.c] from rfl]
  go_enter Tryd.func8, Tryd.ntmps8
  go_wp2_with fail
  refine (weighs_calls c s _ (HC.out.below HX0.out.low)).mono ?_
  rintro e w1 ⟨⟨z1, rfl, _⟩, hb⟩
  have HX1 : Hid (B2 w (cdCells c s) (cdCells d t) w1) := HX0.out.next hb
  clear hb HX0
  have d0 := HX1.out.d 0 (.int .i64 d.letters) rfl
  have d1 := HX1.out.d 1 (.int .i64 d.planes) rfl
  have d2 := HX1.out.d 2 (.int .i64 d.regs) rfl
  have d3 := HX1.out.d 3 (.int .i64 d.lo) rfl
  have d4 := HX1.out.d 4 (.int .i64 d.hi) rfl
  have d5 := HX1.out.d 5 (.int .i64 d.most) rfl
  have d6 := HX1.out.d 6 (.slice t.t.a t.t.n t.t.c) rfl
  have d7 := HX1.out.d 7 (.slice t.k.a t.k.n t.k.c) rfl
  have d8 := HX1.out.d 8 (.slice t.i.a t.i.n t.i.c) rfl
  have d9 := HX1.out.d 9 (.slice t.r.a t.r.n t.r.c) rfl
  go_wp2_with fail
  refine (weighs_calls d t _ (HD.out.below HX1.out.low)).mono ?_
  rintro e w2 ⟨⟨z2, rfl, _⟩, hb⟩
  have HX2 : Hid (B2 w (cdCells c s) (cdCells d t) w2) := HX1.out.next hb
  clear hb HX1
  clear d0 d1 d2 d3 d4 d5 d6 d7 d8 d9
  by_cases g1 : 2147483647 < z1
  · go_wp2
    go_ret
    exact ⟨rfl, HX2.out.low⟩
  by_cases g2 : 2147483647 < z2
  · go_wp2
    go_ret
    exact ⟨rfl, HX2.out.low⟩
  go_wp2_with fail
  refine (awake_calls w2 (HT.out.below HX2.out.low)).mono ?_
  rintro e w3 ⟨rfl, hb⟩
  have HX3 : Hid (B2 w (cdCells c s) (cdCells d t) w3) := HX2.out.next hb
  clear hb HX2 g1 g2
  have c0 := HX3.out.c 0 (.int .i64 c.letters) rfl
  have c1 := HX3.out.c 1 (.int .i64 c.planes) rfl
  have c2 := HX3.out.c 2 (.int .i64 c.regs) rfl
  have c3 := HX3.out.c 3 (.int .i64 c.lo) rfl
  have c4 := HX3.out.c 4 (.int .i64 c.hi) rfl
  have c5 := HX3.out.c 5 (.int .i64 c.most) rfl
  have c6 := HX3.out.c 6 (.slice s.t.a s.t.n s.t.c) rfl
  have c7 := HX3.out.c 7 (.slice s.k.a s.k.n s.k.c) rfl
  have c8 := HX3.out.c 8 (.slice s.i.a s.i.n s.i.c) rfl
  have c9 := HX3.out.c 9 (.slice s.r.a s.r.n s.r.c) rfl
  go_wp2_with fail
  refine (rightR_calls c s _ (HC.out.below HX3.out.low)).mono ?_
  rintro e w4 ⟨rfl, hb⟩
  have HX4 : Hid (B2 w (cdCells c s) (cdCells d t) w4) := HX3.out.next hb
  clear hb HX3
  clear c0 c1 c2 c3 c4 c5 c6 c7 c8 c9
  have d0 := HX4.out.d 0 (.int .i64 d.letters) rfl
  have d1 := HX4.out.d 1 (.int .i64 d.planes) rfl
  have d2 := HX4.out.d 2 (.int .i64 d.regs) rfl
  have d3 := HX4.out.d 3 (.int .i64 d.lo) rfl
  have d4 := HX4.out.d 4 (.int .i64 d.hi) rfl
  have d5 := HX4.out.d 5 (.int .i64 d.most) rfl
  have d6 := HX4.out.d 6 (.slice t.t.a t.t.n t.t.c) rfl
  have d7 := HX4.out.d 7 (.slice t.k.a t.k.n t.k.c) rfl
  have d8 := HX4.out.d 8 (.slice t.i.a t.i.n t.i.c) rfl
  have d9 := HX4.out.d 9 (.slice t.r.a t.r.n t.r.c) rfl
  go_wp2_with fail
  refine (rightR_calls d t _ (HD.out.below HX4.out.low)).mono ?_
  rintro e w5 ⟨rfl, hb⟩
  have HX5 : Hid (B2 w (cdCells c s) (cdCells d t) w5) := HX4.out.next hb
  clear hb HX4
  clear d0 d1 d2 d3 d4 d5 d6 d7 d8 d9
  have c0 := HX5.out.c 0 (.int .i64 c.letters) rfl
  have c1 := HX5.out.c 1 (.int .i64 c.planes) rfl
  have c2 := HX5.out.c 2 (.int .i64 c.regs) rfl
  have c3 := HX5.out.c 3 (.int .i64 c.lo) rfl
  have c4 := HX5.out.c 4 (.int .i64 c.hi) rfl
  have c5 := HX5.out.c 5 (.int .i64 c.most) rfl
  have c6 := HX5.out.c 6 (.slice s.t.a s.t.n s.t.c) rfl
  have c7 := HX5.out.c 7 (.slice s.k.a s.k.n s.k.c) rfl
  have c8 := HX5.out.c 8 (.slice s.i.a s.i.n s.i.c) rfl
  have c9 := HX5.out.c 9 (.slice s.r.a s.r.n s.r.c) rfl
  go_wp2_with fail
  refine (encode_calls c s _ (HC.out.below HX5.out.low)).mono ?_
  rintro e w6 ⟨t6, rfl, ht6, hb⟩
  have HX6 : Hid (B2 w (cdCells c s) (cdCells d t) w6) := HX5.out.next hb
  clear hb HX5
  clear c0 c1 c2 c3 c4 c5 c6 c7 c8 c9
  have d0 := HX6.out.d 0 (.int .i64 d.letters) rfl
  have d1 := HX6.out.d 1 (.int .i64 d.planes) rfl
  have d2 := HX6.out.d 2 (.int .i64 d.regs) rfl
  have d3 := HX6.out.d 3 (.int .i64 d.lo) rfl
  have d4 := HX6.out.d 4 (.int .i64 d.hi) rfl
  have d5 := HX6.out.d 5 (.int .i64 d.most) rfl
  have d6 := HX6.out.d 6 (.slice t.t.a t.t.n t.t.c) rfl
  have d7 := HX6.out.d 7 (.slice t.k.a t.k.n t.k.c) rfl
  have d8 := HX6.out.d 8 (.slice t.i.a t.i.n t.i.c) rfl
  have d9 := HX6.out.d 9 (.slice t.r.a t.r.n t.r.c) rfl
  go_wp2_with fail
  refine (encode_calls d t _ (HD.out.below HX6.out.low)).mono ?_
  rintro e w7 ⟨t7, rfl, ht7, hb⟩
  have HX7 : Hid (B2 w (cdCells c s) (cdCells d t) w7) := HX6.out.next hb
  clear hb HX6
  clear d0 d1 d2 d3 d4 d5 d6 d7 d8 d9
  obtain ⟨r1, hr1⟩ : ∃ r, rightB c = r := ⟨_, rfl⟩
  obtain ⟨r2, hr2⟩ : ∃ r, rightB d = r := ⟨_, rfl⟩
  have HR1 : Hid (rightB c = r1) := hr1
  have HR2 : Hid (rightB d = r2) := hr2
  have he1 : encA c = if r1 then (textB c, 0) else ([], 150) := by rw [encA, hr1]
  have he2 : encA d = if r2 then (textB d, 0) else ([], 150) := by rw [encA, hr2]
  rw [hr1, hr2]
  rw [he1] at ht6 ⊢
  rw [he2] at ht7 ⊢
  clear hr1 hr2 he1 he2
  cases r1
  · cases r2
    · go_wp2
      go_ret
      exact ⟨rfl, HX7.out.low⟩
    · go_wp2
      go_ret
      exact ⟨rfl, HX7.out.low⟩
  cases r2
  · go_wp2
    go_ret
    exact ⟨rfl, HX7.out.low⟩
  have hc1 := rt_of HR1.out
  have hc2 := rt_of HR2.out
  have hs6 : t6.size ≤ 65536 := by
    have h1 := textB_len hc1
    have h2 : t6.data.toList = textB c := ht6
    rw [← size_toList, h2]; omega
  have hd6 : decide ((t6.size : Int) ≤ 65536) = true := by simp; omega
  have HEq : Hid ((t6.toList == t7.toList) = sameB c d) := by
    have h2 : t6.data.toList = textB c := ht6
    have h3 : t7.data.toList = textB d := ht7
    show _ = _
    rw [ByteArray.toList_eq, ByteArray.toList_eq, h2, h3, Bool.eq_iff_iff, beq_iff_eq, sameB_iff]
    exact text_iff hc1 hc2
  clear ht6 ht7 hc1 hc2 hs6
  have c0 := HX7.out.c 0 (.int .i64 c.letters) rfl
  have c1 := HX7.out.c 1 (.int .i64 c.planes) rfl
  have c2 := HX7.out.c 2 (.int .i64 c.regs) rfl
  have c3 := HX7.out.c 3 (.int .i64 c.lo) rfl
  have c4 := HX7.out.c 4 (.int .i64 c.hi) rfl
  have c5 := HX7.out.c 5 (.int .i64 c.most) rfl
  have c6 := HX7.out.c 6 (.slice s.t.a s.t.n s.t.c) rfl
  have c7 := HX7.out.c 7 (.slice s.k.a s.k.n s.k.c) rfl
  have c8 := HX7.out.c 8 (.slice s.i.a s.i.n s.i.c) rfl
  have c9 := HX7.out.c 9 (.slice s.r.a s.r.n s.r.c) rfl
  have d0 := HX7.out.d 0 (.int .i64 d.letters) rfl
  have d1 := HX7.out.d 1 (.int .i64 d.planes) rfl
  have d2 := HX7.out.d 2 (.int .i64 d.regs) rfl
  have d3 := HX7.out.d 3 (.int .i64 d.lo) rfl
  have d4 := HX7.out.d 4 (.int .i64 d.hi) rfl
  have d5 := HX7.out.d 5 (.int .i64 d.most) rfl
  have d6 := HX7.out.d 6 (.slice t.t.a t.t.n t.t.c) rfl
  have d7 := HX7.out.d 7 (.slice t.k.a t.k.n t.k.c) rfl
  have d8 := HX7.out.d 8 (.slice t.i.a t.i.n t.i.c) rfl
  have d9 := HX7.out.d 9 (.slice t.r.a t.r.n t.r.c) rfl
  go_wp2_with fail
  refine (same_calls c d s t _ (HC.out.below HX7.out.low) (HD.out.below HX7.out.low)).mono ?_
  rintro e w8 ⟨rfl, hb⟩
  have HX8 : Hid (B2 w (cdCells c s) (cdCells d t) w8) := HX7.out.next hb
  clear hb HX7
  clear c0 c1 c2 c3 c4 c5 c6 c7 c8 c9 d0 d1 d2 d3 d4 d5 d6 d7 d8 d9
  obtain ⟨q, hq⟩ : ∃ q, sameB c d = q := ⟨_, rfl⟩
  rw [hq] at HEq ⊢
  have heq := HEq.out
  clear hq HEq
  cases q
  · go_wp2
    go_ret
    exact ⟨rfl, HX8.out.low⟩
  · go_wp2
    go_ret
    exact ⟨rfl, HX8.out.low⟩


namespace codeUnlike
open Go.ChangeShapes Go.WideShapes Go.ChangeAt Go.RowKit
open Go.ChangeMaps (open_string shut_string)

set_option maxRecDepth 100000 in
theorem lifted (os : Os) (started : os.Started) (H : Type) (enc : TypeId × Value → H) :
    ReturnsInHanded {} Tryd.checked os 8 .any (fun w args => (Rows.codeUnlikeSpec.pre enc Tryd.prog Tryd.f8 [] false w args ∧ laidMetH Tryd.prog theLaid w) ∧ sizedMet enc Tryd.prog Tryd.f8 (OpenSpec.ofChange Rows.codeUnlikeSpec) false w args)
      (Rows.codeUnlikeSpec.post enc Tryd.prog Tryd.f8 false true false false) := by
  refine returnsInHanded_of_change_and (C := Tryd.checked) (X := fun w _ => laidMetH Tryd.prog theLaid w) (fun _ _ _ hh h => h.of_heap hh) own started (by kernel_rfl) Tryd.func8
    (ChangeSpec.witness_shaped (enc := enc) (C := Tryd.checked) (os := os) (X := fun w _ => laidMetH Tryd.prog theLaid w) false (World.doorLaid Tryd.prog 400 os) #[.agg #[.int .i64 0, .int .i64 0, .int .i64 0, .int .i64 0, .int .i64 0, .int .i64 0, .slice none 0 0, .slice none 0 0, .slice none 0 0, .slice none 0 0], .agg #[.int .i64 0, .int .i64 0, .int .i64 0, .int .i64 0, .int .i64 0, .int .i64 0, .slice none 0 0, .slice none 0 0, .slice none 0 0, .slice none 0 0]] 8 rfl (World.shaped_of_RefB (by kernel_rfl) (by kernel_rfl)) (by kernel_rfl) (by kernel_rfl) (by kernel_rfl) (door_met os _)) ?_
  intro W base args ds gs before hval0 hW _ _ hL _
  have hval : ∀ (j : Nat) t v, Tryd.f8.params[j]? = some t → args[j]? = some v → Value.okWide Tryd.prog W .any base t v := hval0
  have hW' := hW
  obtain ⟨p, q, hA0, hV, rfl, hfz, hnd⟩ := hW
  have hA : DataW.TrodAll enc Tryd.prog W 0 (fun _ => true) true Tryd.f8.params.toList args.toList ds p := hA0
  rw [Tryd.params8] at hA hval
  obtain ⟨v0, vs0, d0, ds0, p0, q0, hargs, rfl, rfl, h0, r0⟩ := trodAll_cons hA
  obtain ⟨v1, vs1, d1, ds1, p1, q1, rfl, rfl, rfl, h1, r1⟩ := trodAll_cons r0
  obtain ⟨rfl, rfl, rfl⟩ := trodAll_nil r1
  obtain rfl : args = #[v0, v1] := by cases args; simp_all
  obtain ⟨rfl, rfl⟩ := trodVars_none hV
  obtain ⟨cs0, rfl, hcs0⟩ := okWide_struct Tryd.underlying26 (hval 0 26 v0 rfl rfl)
  have k0 := h0
  have lt0 : ∀ x ∈ p0, x.block < W.heap.size := by obtain ⟨m, hm⟩ := k0; exact DataW.trod_lt m _ _ _ hm
  obtain ⟨z0, s0, e0, w0⟩ := cd_in hcs0 h0
  subst e0
  obtain ⟨cs1, rfl, hcs1⟩ := okWide_struct Tryd.underlying26 (hval 1 26 v1 rfl rfl)
  have k1 := h1
  have lt1 : ∀ x ∈ p1, x.block < W.heap.size := by obtain ⟨m, hm⟩ := k1; exact DataW.trod_lt m _ _ _ hm
  obtain ⟨z1, s1, e1, w1⟩ := cd_in hcs1 h1
  subst e1
  clear hA0 hval0
  refine (unlike_walk z0 s0 z1 s1 W (tab_of_laid hL) w0 w1).mono fun e W' ⟨he, bel⟩ => ?_
  subst he
  exact ⟨_, rfl, _, _, _, [], _, [], hW', trodAll_mk1 (shut_bool Tryd.underlying4 _), (trodAll_cons_mk (Below.trod laidOut (by kernel_rfl) (of_decide_eq_true (by kernel_rfl)) k0 bel lt0) (trodAll_cons_mk (Below.trod laidOut (by kernel_rfl) (of_decide_eq_true (by kernel_rfl)) k1 bel lt1) trodAll_mk0)), rfl, bel.frame _, fun h => by cases h⟩
end codeUnlike

theorem codeUnlike_holds : Rows.CodeUnlikeSaid :=
  OpenClaim.holds_of_wide 8 Tryd.f8 rfl rfl rfl rfl rfl rfl rfl ⟨rfl, rfl, rfl, rfl, rfl⟩ rfl rfl rfl rfl rfl (by kernel_rfl) Tryd.func8 (by kernel_rfl)
    (of_decide_eq_true (by kernel_rfl)) (by unfold Func.isWrapper; first | (rw [if_pos (by decide +kernel)]; kernel_rfl) | (rw [if_neg (by decide +kernel)]; exact ⟨rfl, rfl⟩))
    (fun os started H enc _ => codeUnlike.lifted os started H enc)

theorem codeUnlikeCard_holds : Rows.CodeUnlikeCardSaid :=
  Claim7.holds_tied_plain_at .later [] [.data, .data, .data] true (true, "f9005e9bbb51a183d67557a8bddb91a2248e73d4468646ef1995ae77272fb2ba") false
    codeUnlike_holds (fun _ h => by cases h) (by kernel_rfl) (fun _ h => by cases h) codeUnlike_row_tie rfl ⟨rfl, rfl⟩ (by kernel_rfl) rfl
    (fun f fn hf hfn => by
      obtain rfl : f = 8 := Option.some.inj ((show Tryd.prog.funcNamed Rows.codeUnlikeRow.func = some 8 by kernel_rfl).symm.trans hf) |>.symm
      obtain rfl : fn = Tryd.f8 := (Option.some.inj (Tryd.func8.symm.trans hfn)).symm
      exact ⟨by kernel_rfl, fun j t ht => by
        rw [Tryd.params8] at ht
        have hm : t ∈ [26, 26] := by simpa using Array.mem_of_getElem? ht
        have hall : ([26, 26].all fun u => !Tryd.prog.wantsStandIn u) = true := by kernel_rfl
        exact (show Tryd.prog.wantsStandIn t = false by simpa using List.all_eq_true.1 hall t hm)⟩)
    (by kernel_rfl)
end Go.Proofs.YtignpgoicoojiaaDoor
