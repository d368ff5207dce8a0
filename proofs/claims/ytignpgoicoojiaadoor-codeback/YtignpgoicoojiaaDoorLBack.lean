/-
  A right code by its bytes, there and back: of any code.
-/
import Derived.Test.YtignpgoicoojiaaDoorRows
import Derived.Test.YtignpgoicoojiaaDoorCards
import Derived.Test.YtignpgoicoojiaaDoorTie
import Derived.Test.YtignpgoicoojiaaDoorOpn
import Derived.Test.YtignpgoicoojiaaDoorCpl
import Derived.Test.YtignpgoicoojiaaDoorRdJ
import Derived.Test.YtignpgoicoojiaaDoorSam
import Derived.Test.YtignpgoicoojiaaDoorAwk
import Derived.Test.YtignpgoicoojiaaDoorRtC
namespace Go.Proofs.YtignpgoicoojiaaDoor
open Go.RowKit

set_option maxRecDepth 20000 in
set_option maxHeartbeats 4000000 in
theorem back_walk (c : Cd) (s : Ls) (w : World) (htab : TabOk w) (hc : CdIn w c s) :
    Calls Tryd.prog 6 #[.agg (cdCells c s)] w fun e w' => e = .returned (.bool true) ∧ Below w.heap.size w w' := by
  have HT : Hid (TabOk w) := htab
  have HC : Hid (CdAt w c s) := hc.at'
  clear htab hc
  have HX0 : Hid (Bx w (cdCells c s) (w.alloc (.cells #[.int .i64 c.letters, .int .i64 c.planes, .int .i64 c.regs, .int .i64 c.lo, .int .i64 c.hi, .int .i64 c.most, .slice s.t.a s.t.n s.t.c, .slice s.k.a s.k.n s.k.c, .slice s.i.a s.i.n s.i.c, .slice s.r.a s.r.n s.r.c] 26))) := Bx.start w _
  rw [show cdCells c s = #[.int .i64 c.letters, .int .i64 c.planes, .int .i64 c.regs, .int .i64 c.lo, .int .i64 c.hi, .int .i64 c.most, .slice s.t.a s.t.n s.t.c, .slice s.k.a s.k.n s.k.c, .slice s.i.a s.i.n s.i.c, .slice s.r.a s.r.n s.r.c] from rfl]
  go_enter Tryd.func6, Tryd.ntmps6
  go_wp2_with fail
  refine (weighs_calls c s _ (HC.out.below HX0.out.low)).mono ?_
  rintro e w1 ⟨⟨z1, rfl, _⟩, hb⟩
  have HX1 : Hid (Bx w (cdCells c s) w1) := HX0.out.next hb
  clear hb HX0
  by_cases g1 : 2147483647 < z1
  · go_wp2
    go_ret
    exact ⟨rfl, HX1.out.low⟩
  go_wp2_with fail
  refine (awake_calls w1 (HT.out.below HX1.out.low)).mono ?_
  rintro e w2 ⟨rfl, hb⟩
  have HX2 : Hid (Bx w (cdCells c s) w2) := HX1.out.next hb
  clear hb HX1 g1
  have c0 := HX2.out.cell 0 (.int .i64 c.letters) rfl
  have c1 := HX2.out.cell 1 (.int .i64 c.planes) rfl
  have c2 := HX2.out.cell 2 (.int .i64 c.regs) rfl
  have c3 := HX2.out.cell 3 (.int .i64 c.lo) rfl
  have c4 := HX2.out.cell 4 (.int .i64 c.hi) rfl
  have c5 := HX2.out.cell 5 (.int .i64 c.most) rfl
  have c6 := HX2.out.cell 6 (.slice s.t.a s.t.n s.t.c) rfl
  have c7 := HX2.out.cell 7 (.slice s.k.a s.k.n s.k.c) rfl
  have c8 := HX2.out.cell 8 (.slice s.i.a s.i.n s.i.c) rfl
  have c9 := HX2.out.cell 9 (.slice s.r.a s.r.n s.r.c) rfl
  go_wp2_with fail
  refine (rightR_calls c s _ (HC.out.below HX2.out.low)).mono ?_
  rintro e w3 ⟨rfl, hb⟩
  have HX3 : Hid (Bx w (cdCells c s) w3) := HX2.out.next hb
  clear hb HX2
  clear c0 c1 c2 c3 c4 c5 c6 c7 c8 c9
  have c0 := HX3.out.cell 0 (.int .i64 c.letters) rfl
  have c1 := HX3.out.cell 1 (.int .i64 c.planes) rfl
  have c2 := HX3.out.cell 2 (.int .i64 c.regs) rfl
  have c3 := HX3.out.cell 3 (.int .i64 c.lo) rfl
  have c4 := HX3.out.cell 4 (.int .i64 c.hi) rfl
  have c5 := HX3.out.cell 5 (.int .i64 c.most) rfl
  have c6 := HX3.out.cell 6 (.slice s.t.a s.t.n s.t.c) rfl
  have c7 := HX3.out.cell 7 (.slice s.k.a s.k.n s.k.c) rfl
  have c8 := HX3.out.cell 8 (.slice s.i.a s.i.n s.i.c) rfl
  have c9 := HX3.out.cell 9 (.slice s.r.a s.r.n s.r.c) rfl
  go_wp2_with fail
  refine (encode_calls c s _ (HC.out.below HX3.out.low)).mono ?_
  rintro e w4 ⟨t4, rfl, ht4, hb⟩
  have HX4 : Hid (Bx w (cdCells c s) w4) := HX3.out.next hb
  clear hb HX3
  clear c0 c1 c2 c3 c4 c5 c6 c7 c8 c9
  obtain ⟨r, hr⟩ : ∃ r, rightB c = r := ⟨_, rfl⟩
  have HR : Hid (rightB c = r) := hr
  have he : encA c = if r then (textB c, 0) else ([], 150) := by rw [encA, hr]
  rw [hr]
  rw [he] at ht4 ⊢
  clear hr he
  cases r
  · have hx : (t4.toList == []) = true := by rw [ByteArray.toList_eq, show t4.data.toList = [] from ht4]; rfl
    clear ht4
    go_wp2
    go_ret
    exact ⟨rfl, HX4.out.low⟩
  have hRt := rt_of HR.out
  have htx : t4.data.toList = textB c := ht4
  have hs4 : t4.size ≤ maxLen := by
    have h1 := textB_len hRt
    rw [← size_toList, htx]; unfold maxLen; omega
  have HDc : Hid (decA t4.data.toList = (c, 0)) := by show _ = _; rw [htx]; exact decA_ok HR.out
  clear ht4 htx hRt
  go_wp2_with fail
  refine (decode_calls t4 w4 hs4).mono ?_
  rintro e w5 ⟨t, rfl, hat, hb, _⟩
  rw [HDc.out] at hat ⊢
  simp only at hat
  rw [show cdCells (c, (0 : Int)).1 t = #[.int .i64 c.letters, .int .i64 c.planes, .int .i64 c.regs, .int .i64 c.lo, .int .i64 c.hi, .int .i64 c.most, .slice t.t.a t.t.n t.t.c, .slice t.k.a t.k.n t.k.c, .slice t.i.a t.i.n t.i.c, .slice t.r.a t.r.n t.r.c] from rfl]
  have HX5 : Hid (Bx w (cdCells c s) w5) := HX4.out.next hb
  have HA5 : Hid (CdAt w5 c t) := hat
  clear hb hat HX4 hs4
  have HX6 : Hid (Bx w (cdCells c s) (w5.alloc (.cells #[.int .i64 c.letters, .int .i64 c.planes, .int .i64 c.regs, .int .i64 c.lo, .int .i64 c.hi, .int .i64 c.most, .slice t.t.a t.t.n t.t.c, .slice t.k.a t.k.n t.k.c, .slice t.i.a t.i.n t.i.c, .slice t.r.a t.r.n t.r.c] 26)) ∧ CdAt (w5.alloc (.cells #[.int .i64 c.letters, .int .i64 c.planes, .int .i64 c.regs, .int .i64 c.lo, .int .i64 c.hi, .int .i64 c.most, .slice t.t.a t.t.n t.t.c, .slice t.k.a t.k.n t.k.c, .slice t.i.a t.i.n t.i.c, .slice t.r.a t.r.n t.r.c] 26)) c t) := ⟨HX5.out.alloc _, HA5.out.below (below_new _)⟩
  have hlt : w.heap.size < w5.heap.size := HX5.out.size
  have c0 := HX5.out.cell 0 (.int .i64 c.letters) rfl
  have c1 := HX5.out.cell 1 (.int .i64 c.planes) rfl
  have c2 := HX5.out.cell 2 (.int .i64 c.regs) rfl
  have c3 := HX5.out.cell 3 (.int .i64 c.lo) rfl
  have c4 := HX5.out.cell 4 (.int .i64 c.hi) rfl
  have c5 := HX5.out.cell 5 (.int .i64 c.most) rfl
  have c6 := HX5.out.cell 6 (.slice s.t.a s.t.n s.t.c) rfl
  have c7 := HX5.out.cell 7 (.slice s.k.a s.k.n s.k.c) rfl
  have c8 := HX5.out.cell 8 (.slice s.i.a s.i.n s.i.c) rfl
  have c9 := HX5.out.cell 9 (.slice s.r.a s.r.n s.r.c) rfl
  have HSm : Hid (∀ W, CdAt W c t → CdAt W c s → Calls Tryd.prog 19 #[.agg #[.int .i64 c.letters, .int .i64 c.planes, .int .i64 c.regs, .int .i64 c.lo, .int .i64 c.hi, .int .i64 c.most, .slice t.t.a t.t.n t.t.c, .slice t.k.a t.k.n t.k.c, .slice t.i.a t.i.n t.i.c, .slice t.r.a t.r.n t.r.c], .agg #[.int .i64 c.letters, .int .i64 c.planes, .int .i64 c.regs, .int .i64 c.lo, .int .i64 c.hi, .int .i64 c.most, .slice s.t.a s.t.n s.t.c, .slice s.k.a s.k.n s.k.c, .slice s.i.a s.i.n s.i.c, .slice s.r.a s.r.n s.r.c]] W fun e w' => e = .returned (.bool true) ∧ Below W.heap.size W w') := fun W k1 k2 => by
    have := same_calls c c t s W k1 k2
    rw [sameB_iff.2 rfl] at this
    exact this
  go_wp2_with fail
  refine (HSm.out _ HX6.out.2 (HC.out.below HX6.out.1.low)).mono ?_
  rintro e w7 ⟨rfl, hb⟩
  have HX7 : Hid (Bx w (cdCells c s) w7) := HX6.out.1.next hb
  clear hb HX6 HX5 HSm HA5
  clear c0 c1 c2 c3 c4 c5 c6 c7 c8 c9
  go_wp2
  go_ret
  exact ⟨rfl, HX7.out.low⟩


namespace codeBack
open Go.ChangeShapes Go.WideShapes Go.ChangeAt Go.RowKit
open Go.ChangeMaps (open_string shut_string)

set_option maxRecDepth 100000 in
theorem lifted (os : Os) (started : os.Started) (H : Type) (enc : TypeId × Value → H) :
    ReturnsInHanded {} Tryd.checked os 6 .any (fun w args => (Rows.codeBackSpec.pre enc Tryd.prog Tryd.f6 [] false w args ∧ laidMetH Tryd.prog theLaid w) ∧ sizedMet enc Tryd.prog Tryd.f6 (OpenSpec.ofChange Rows.codeBackSpec) false w args)
      (Rows.codeBackSpec.post enc Tryd.prog Tryd.f6 false true false false) := by
  refine returnsInHanded_of_change_and (C := Tryd.checked) (X := fun w _ => laidMetH Tryd.prog theLaid w) (fun _ _ _ hh h => h.of_heap hh) own started (by kernel_rfl) Tryd.func6
    (ChangeSpec.witness_shaped (enc := enc) (C := Tryd.checked) (os := os) (X := fun w _ => laidMetH Tryd.prog theLaid w) false (World.doorLaid Tryd.prog 400 os) #[.agg #[.int .i64 0, .int .i64 0, .int .i64 0, .int .i64 0, .int .i64 0, .int .i64 0, .slice none 0 0, .slice none 0 0, .slice none 0 0, .slice none 0 0]] 8 rfl (World.shaped_of_RefB (by kernel_rfl) (by kernel_rfl)) (by kernel_rfl) (by kernel_rfl) (by kernel_rfl) (door_met os _)) ?_
  intro W base args ds gs before hval0 hW _ _ hL _
  have hval : ∀ (j : Nat) t v, Tryd.f6.params[j]? = some t → args[j]? = some v → Value.okWide Tryd.prog W .any base t v := hval0
  have hW' := hW
  obtain ⟨p, q, hA0, hV, rfl, hfz, hnd⟩ := hW
  have hA : DataW.TrodAll enc Tryd.prog W 0 (fun _ => true) true Tryd.f6.params.toList args.toList ds p := hA0
  rw [Tryd.params6] at hA hval
  obtain ⟨v0, vs0, d0, ds0, p0, q0, hargs, rfl, rfl, h0, r0⟩ := trodAll_cons hA
  obtain ⟨rfl, rfl, rfl⟩ := trodAll_nil r0
  obtain rfl : args = #[v0] := by cases args; simp_all
  obtain ⟨rfl, rfl⟩ := trodVars_none hV
  obtain ⟨cs0, rfl, hcs0⟩ := okWide_struct Tryd.underlying26 (hval 0 26 v0 rfl rfl)
  have k0 := h0
  have lt0 : ∀ x ∈ p0, x.block < W.heap.size := by obtain ⟨m, hm⟩ := k0; exact DataW.trod_lt m _ _ _ hm
  obtain ⟨z0, s0, e0, w0⟩ := cd_in hcs0 h0
  subst e0
  clear hA0 hval0
  refine (back_walk z0 s0 W (tab_of_laid hL) w0).mono fun e W' ⟨he, bel⟩ => ?_
  subst he
  exact ⟨_, rfl, _, _, _, [], _, [], hW', trodAll_mk1 (shut_bool Tryd.underlying4 _), (trodAll_cons_mk (Below.trod laidOut (by kernel_rfl) (of_decide_eq_true (by kernel_rfl)) k0 bel lt0) trodAll_mk0), rfl, bel.frame _, fun h => by cases h⟩
end codeBack

theorem codeBack_holds : Rows.CodeBackSaid :=
  OpenClaim.holds_of_wide 6 Tryd.f6 rfl rfl rfl rfl rfl rfl rfl ⟨rfl, rfl, rfl, rfl, rfl⟩ rfl rfl rfl rfl rfl (by kernel_rfl) Tryd.func6 (by kernel_rfl)
    (of_decide_eq_true (by kernel_rfl)) (by unfold Func.isWrapper; first | (rw [if_pos (by decide +kernel)]; kernel_rfl) | (rw [if_neg (by decide +kernel)]; exact ⟨rfl, rfl⟩))
    (fun os started H enc _ => codeBack.lifted os started H enc)

theorem codeBackCard_holds : Rows.CodeBackCardSaid :=
  Claim7.holds_tied_plain_at .later [] [.data, .data, .data] true (true, "f9005e9bbb51a183d67557a8bddb91a2248e73d4468646ef1995ae77272fb2ba") false
    codeBack_holds (fun _ h => by cases h) (by kernel_rfl) (fun _ h => by cases h) codeBack_row_tie rfl ⟨rfl, rfl⟩ (by kernel_rfl) rfl
    (fun f fn hf hfn => by
      obtain rfl : f = 6 := Option.some.inj ((show Tryd.prog.funcNamed Rows.codeBackRow.func = some 6 by kernel_rfl).symm.trans hf) |>.symm
      obtain rfl : fn = Tryd.f6 := (Option.some.inj (Tryd.func6.symm.trans hfn)).symm
      exact ⟨by kernel_rfl, fun j t ht => by
        rw [Tryd.params6] at ht
        have hm : t ∈ [26] := by simpa using Array.mem_of_getElem? ht
        have hall : ([26].all fun u => !Tryd.prog.wantsStandIn u) = true := by kernel_rfl
        exact (show Tryd.prog.wantsStandIn t = false by simpa using List.all_eq_true.1 hall t hm)⟩)
    (by kernel_rfl)
end Go.Proofs.YtignpgoicoojiaaDoor
