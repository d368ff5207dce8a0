/-
  The listing of every code is what the document says; what is handed in stays as it is.
-/
import Derived.Test.YtignpgoicoojiaaDoorRows
import Derived.Test.YtignpgoicoojiaaDoorCards
import Derived.Test.YtignpgoicoojiaaDoorTie
import Derived.Test.YtignpgoicoojiaaDoorOpn
import Derived.Test.YtignpgoicoojiaaDoorLnC
import Derived.Test.YtignpgoicoojiaaDoorAwk
import Derived.Test.YtignpgoicoojiaaDoorLsr
namespace Go.Proofs.YtignpgoicoojiaaDoor
open Go.RowKit

/-- The box of the code, the one of what is lent, and its rows. -/
structure WB (w : World) (c : Cd) (s t : Ls) (og g1 g2 g3 g4 : Nat) (W : World) : Prop where
  bx : Bx w (cdCells c s) W
  own : W.heap[og]? = some (.cells (cdCells c t) 26 (0, 0))
  lent : LentAt W c g1 g2 g3 g4
theorem WB.next {w : World} {c : Cd} {s t : Ls} {og g1 g2 g3 g4 : Nat} {W W2 : World} (h : WB w c s t og g1 g2 g3 g4 W) (hb : Below W.heap.size W W2) : WB w c s t og g1 g2 g3 g4 W2 :=
  ⟨h.bx.next hb, by rw [hb.block _ (lt_block h.own)]; exact h.own, h.lent.below hb⟩
theorem WB.c {w : World} {c : Cd} {s t : Ls} {og g1 g2 g3 g4 : Nat} {W : World} (h : WB w c s t og g1 g2 g3 g4 W) (i : Nat) (v : Value) (hv : (cdCells c s)[i]? = some v) : W.cell? ⟨w.heap.size, i, none⟩ = some v := cell_block h.bx.box i v hv
theorem WB.o {w : World} {c : Cd} {s t : Ls} {og g1 g2 g3 g4 : Nat} {W : World} (h : WB w c s t og g1 g2 g3 g4 W) (i : Nat) (v : Value) (hv : (cdCells c t)[i]? = some v) : W.cell? ⟨og, i, none⟩ = some v := cell_block h.own i v hv

set_option maxRecDepth 20000 in
set_option maxHeartbeats 4000000 in
theorem lists_walk (c : Cd) (s : Ls) (w : World) (htab : TabOk w) (hc : CdIn w c s) :
    Calls Tryd.prog 5 #[.agg (cdCells c s)] w fun e w' => e = .returned (.bool true) ∧ Below w.heap.size w w' := by
  have HT : Hid (TabOk w) := htab
  have HI : Hid (CdIn w c s) := hc
  have HC : Hid (CdAt w c s) := hc.at'
  clear htab hc
  have HX0 : Hid (Bx w (cdCells c s) (w.alloc (.cells #[.int .i64 c.letters, .int .i64 c.planes, .int .i64 c.regs, .int .i64 c.lo, .int .i64 c.hi, .int .i64 c.most, .slice s.t.a s.t.n s.t.c, .slice s.k.a s.k.n s.k.c, .slice s.i.a s.i.n s.i.c, .slice s.r.a s.r.n s.r.c] 26))) := Bx.start w _
  rw [show cdCells c s = #[.int .i64 c.letters, .int .i64 c.planes, .int .i64 c.regs, .int .i64 c.lo, .int .i64 c.hi, .int .i64 c.most, .slice s.t.a s.t.n s.t.c, .slice s.k.a s.k.n s.k.c, .slice s.i.a s.i.n s.i.c, .slice s.r.a s.r.n s.r.c] from rfl]
  go_enter Tryd.func5, Tryd.ntmps5
  go_wp2_with fail
  refine (weighs_calls c s _ (HC.out.below HX0.out.low)).mono ?_
  rintro e w1 ⟨⟨z1, rfl, hz1⟩, hb⟩
  have HX1 : Hid (Bx w (cdCells c s) w1) := HX0.out.next hb
  clear hb HX0
  by_cases g1 : 2147483647 < z1
  · clear hz1
    go_wp2
    go_ret
    exact ⟨rfl, HX1.out.low⟩
  have HN : Hid (s.t.n ≤ 2147483647 ∧ s.k.n ≤ 2147483647 ∧ s.i.n ≤ 2147483647 ∧ s.r.n ≤ 2147483647) := hz1 (by omega)
  clear hz1
  go_wp2_with fail
  refine (awake_calls w1 (HT.out.below HX1.out.low)).mono ?_
  rintro e w2 ⟨rfl, hb⟩
  have HX2 : Hid (Bx w (cdCells c s) w2) := HX1.out.next hb
  clear hb HX1 g1
  have c0 := HX2.out.cell 0 (.int .i64 c.letters) rfl
  have c1 := HX2.out.cell 1 (.int .i64 c.planes) rfl
  have c2 := HX2.out.cell 2 (.int .i64 c.regs) rfl
  have c3 := HX2.out.cell 3 (.int .i64 c.lo) rfl
  have c4 := HX2.out.cell 4 (.int .i64 c.hi) rfl
  have c5 := HX2.out.cell 5 (.int .i64 c.most) rfl
  have c6 := HX2.out.cell 6 (.slice s.t.a s.t.n s.t.c) rfl
  have c7 := HX2.out.cell 7 (.slice s.k.a s.k.n s.k.c) rfl
  have c8 := HX2.out.cell 8 (.slice s.i.a s.i.n s.i.c) rfl
  have c9 := HX2.out.cell 9 (.slice s.r.a s.r.n s.r.c) rfl
  go_wp2_with fail
  refine (lent_calls c s w2 ⟨HC.out.below HX2.out.low, HI.out.t, HI.out.k, HI.out.i, HI.out.r⟩ HN.out).mono ?_
  rintro e w3 ⟨g1, g2, g3, g4, rfl, hlt, hb⟩
  obtain ⟨t, ht⟩ : ∃ t, lentS c g1 g2 g3 g4 = t := ⟨_, rfl⟩
  have HTt : Hid (lentS c g1 g2 g3 g4 = t) := ht
  rw [ht]
  clear ht
  clear c0 c1 c2 c3 c4 c5 c6 c7 c8 c9
  rw [show cdCells c t = #[.int .i64 c.letters, .int .i64 c.planes, .int .i64 c.regs, .int .i64 c.lo, .int .i64 c.hi, .int .i64 c.most, .slice t.t.a t.t.n t.t.c, .slice t.k.a t.k.n t.k.c, .slice t.i.a t.i.n t.i.c, .slice t.r.a t.r.n t.r.c] from rfl]
  have HB3 : Hid (WB w c s t w3.heap.size g1 g2 g3 g4 (w3.alloc (.cells #[.int .i64 c.letters, .int .i64 c.planes, .int .i64 c.regs, .int .i64 c.lo, .int .i64 c.hi, .int .i64 c.most, .slice t.t.a t.t.n t.t.c, .slice t.k.a t.k.n t.k.c, .slice t.i.a t.i.n t.i.c, .slice t.r.a t.r.n t.r.c] 26))) :=
    ⟨(HX2.out.next hb).alloc _, heap_alloc_new _ _, hlt.below (below_new _)⟩
  clear hb hlt HX2
  go_upto_region 6 with (fail)
  obtain ⟨og, hog⟩ : ∃ og, w3.heap.size = og := ⟨_, rfl⟩
  have HOg : Hid (w3.heap.size = og) := hog
  rw [hog] at HB3
  obtain ⟨w4, hw4⟩ : ∃ w4, w3.alloc (.cells #[.int .i64 c.letters, .int .i64 c.planes, .int .i64 c.regs, .int .i64 c.lo, .int .i64 c.hi, .int .i64 c.most, .slice t.t.a t.t.n t.t.c, .slice t.k.a t.k.n t.k.c, .slice t.i.a t.i.n t.i.c, .slice t.r.a t.r.n t.r.c] 26) = w4 := ⟨_, rfl⟩
  have HW4 : Hid (w3.alloc (.cells #[.int .i64 c.letters, .int .i64 c.planes, .int .i64 c.regs, .int .i64 c.lo, .int .i64 c.hi, .int .i64 c.most, .slice t.t.a t.t.n t.t.c, .slice t.k.a t.k.n t.k.c, .slice t.i.a t.i.n t.i.c, .slice t.r.a t.r.n t.r.c] 26) = w4) := hw4
  rw [hw4] at HB3
  clear hog hw4
  rw [HW4.out, HOg.out]
  have HCs : Hid (∀ W, WB w c s t og g1 g2 g3 g4 W → CdAt W c s) := fun W h => HC.out.below h.bx.low
  have HOs : Hid (∀ W, WB w c s t og g1 g2 g3 g4 W → CdAt W c t) := fun W h => by
    rw [← HTt.out]
    obtain ⟨n1, n2, n3, n4⟩ := HN.out
    exact h.lent.at' (by rw [HC.out.table.length]; unfold maxLen; omega) (by rw [HC.out.consts.length]; unfold maxLen; omega) (by rw [HC.out.cell.length]; unfold maxLen; omega) (by rw [HC.out.arrows.length]; unfold maxLen; omega)
  have HWh : Hid (∀ W, WB w c s t og g1 g2 g3 g4 W → Calls Tryd.prog 16 #[.agg (cdCells c t), .agg (cdCells c s)] W fun e w' => e = .returned (.bool true) ∧ Below W.heap.size W w') := fun W h => by
    rw [← HTt.out]
    exact whole_calls c s g1 g2 g3 g4 W (HC.out.below h.bx.low) h.lent HN.out
  clear HTt HN HI
  have HB6 : Hid _ := HB3
  clear HB3
  have o0 := HB6.out.o 0 (.int .i64 c.letters) rfl
  have o1 := HB6.out.o 1 (.int .i64 c.planes) rfl
  have o2 := HB6.out.o 2 (.int .i64 c.regs) rfl
  have o3 := HB6.out.o 3 (.int .i64 c.lo) rfl
  have o4 := HB6.out.o 4 (.int .i64 c.hi) rfl
  have o5 := HB6.out.o 5 (.int .i64 c.most) rfl
  have o6 := HB6.out.o 6 (.slice t.t.a t.t.n t.t.c) rfl
  have o7 := HB6.out.o 7 (.slice t.k.a t.k.n t.k.c) rfl
  have o8 := HB6.out.o 8 (.slice t.i.a t.i.n t.i.c) rfl
  have o9 := HB6.out.o 9 (.slice t.r.a t.r.n t.r.c) rfl
  go_wp2_with fail
  refine (list_calls c t _ (HOs.out _ HB6.out) (HT.out.below HB6.out.bx.low)).mono ?_
  rintro e w7 ⟨t7, rfl, ht7, hb⟩
  have HB7 : Hid (WB w c s t og g1 g2 g3 g4 w7) := HB6.out.next hb
  clear hb HB6
  clear o0 o1 o2 o3 o4 o5 o6 o7 o8 o9
  have c0 := HB7.out.c 0 (.int .i64 c.letters) rfl
  have c1 := HB7.out.c 1 (.int .i64 c.planes) rfl
  have c2 := HB7.out.c 2 (.int .i64 c.regs) rfl
  have c3 := HB7.out.c 3 (.int .i64 c.lo) rfl
  have c4 := HB7.out.c 4 (.int .i64 c.hi) rfl
  have c5 := HB7.out.c 5 (.int .i64 c.most) rfl
  have c6 := HB7.out.c 6 (.slice s.t.a s.t.n s.t.c) rfl
  have c7 := HB7.out.c 7 (.slice s.k.a s.k.n s.k.c) rfl
  have c8 := HB7.out.c 8 (.slice s.i.a s.i.n s.i.c) rfl
  have c9 := HB7.out.c 9 (.slice s.r.a s.r.n s.r.c) rfl
  go_wp2_with fail
  refine (refList_calls c s _ (HCs.out _ HB7.out)).mono ?_
  rintro e w8 ⟨t8, rfl, ht8, hb⟩
  have HB8 : Hid (WB w c s t og g1 g2 g3 g4 w8) := HB7.out.next hb
  clear hb HB7
  clear c0 c1 c2 c3 c4 c5 c6 c7 c8 c9
  obtain rfl : t7 = t8 := byte_ext (ht7.trans ht8.symm)
  have heq : (t7.toList == t7.toList) = true := by simp
  clear ht7 ht8
  have c0 := HB8.out.c 0 (.int .i64 c.letters) rfl
  have c1 := HB8.out.c 1 (.int .i64 c.planes) rfl
  have c2 := HB8.out.c 2 (.int .i64 c.regs) rfl
  have c3 := HB8.out.c 3 (.int .i64 c.lo) rfl
  have c4 := HB8.out.c 4 (.int .i64 c.hi) rfl
  have c5 := HB8.out.c 5 (.int .i64 c.most) rfl
  have c6 := HB8.out.c 6 (.slice s.t.a s.t.n s.t.c) rfl
  have c7 := HB8.out.c 7 (.slice s.k.a s.k.n s.k.c) rfl
  have c8 := HB8.out.c 8 (.slice s.i.a s.i.n s.i.c) rfl
  have c9 := HB8.out.c 9 (.slice s.r.a s.r.n s.r.c) rfl
  have o0 := HB8.out.o 0 (.int .i64 c.letters) rfl
  have o1 := HB8.out.o 1 (.int .i64 c.planes) rfl
  have o2 := HB8.out.o 2 (.int .i64 c.regs) rfl
  have o3 := HB8.out.o 3 (.int .i64 c.lo) rfl
  have o4 := HB8.out.o 4 (.int .i64 c.hi) rfl
  have o5 := HB8.out.o 5 (.int .i64 c.most) rfl
  have o6 := HB8.out.o 6 (.slice t.t.a t.t.n t.t.c) rfl
  have o7 := HB8.out.o 7 (.slice t.k.a t.k.n t.k.c) rfl
  have o8 := HB8.out.o 8 (.slice t.i.a t.i.n t.i.c) rfl
  have o9 := HB8.out.o 9 (.slice t.r.a t.r.n t.r.c) rfl
  go_wp2_with fail
  refine (HWh.out _ HB8.out).mono ?_
  rintro e w9 ⟨rfl, hb⟩
  have HB9 : Hid (WB w c s t og g1 g2 g3 g4 w9) := HB8.out.next hb
  clear hb HB8 HWh HOs HCs
  clear o0 o1 o2 o3 o4 o5 o6 o7 o8 o9 c0 c1 c2 c3 c4 c5 c6 c7 c8 c9
  generalize (listA c).2 = er
  go_wp2
  go_ret
  exact ⟨rfl, HB9.out.bx.low⟩


namespace codeLists
open Go.ChangeShapes Go.WideShapes Go.ChangeAt Go.RowKit
open Go.ChangeMaps (open_string shut_string)

set_option maxRecDepth 100000 in
theorem lifted (os : Os) (started : os.Started) (H : Type) (enc : TypeId × Value → H) :
    ReturnsInHanded {} Tryd.checked os 5 .any (fun w args => (Rows.codeListsSpec.pre enc Tryd.prog Tryd.f5 [] false w args ∧ laidMetH Tryd.prog theLaid w) ∧ sizedMet enc Tryd.prog Tryd.f5 (OpenSpec.ofChange Rows.codeListsSpec) false w args)
      (Rows.codeListsSpec.post enc Tryd.prog Tryd.f5 false true false false) := by
  refine returnsInHanded_of_change_and (C := Tryd.checked) (X := fun w _ => laidMetH Tryd.prog theLaid w) (fun _ _ _ hh h => h.of_heap hh) own started (by kernel_rfl) Tryd.func5
    (ChangeSpec.witness_shaped (enc := enc) (C := Tryd.checked) (os := os) (X := fun w _ => laidMetH Tryd.prog theLaid w) false (World.doorLaid Tryd.prog 400 os) #[.agg #[.int .i64 0, .int .i64 0, .int .i64 0, .int .i64 0, .int .i64 0, .int .i64 0, .slice none 0 0, .slice none 0 0, .slice none 0 0, .slice none 0 0]] 8 rfl (World.shaped_of_RefB (by kernel_rfl) (by kernel_rfl)) (by kernel_rfl) (by kernel_rfl) (by kernel_rfl) (door_met os _)) ?_
  intro W base args ds gs before hval0 hW _ _ hL _
  have hval : ∀ (j : Nat) t v, Tryd.f5.params[j]? = some t → args[j]? = some v → Value.okWide Tryd.prog W .any base t v := hval0
  have hW' := hW
  obtain ⟨p, q, hA0, hV, rfl, hfz, hnd⟩ := hW
  have hA : DataW.TrodAll enc Tryd.prog W 0 (fun _ => true) true Tryd.f5.params.toList args.toList ds p := hA0
  rw [Tryd.params5] at hA hval
  obtain ⟨v0, vs0, d0, ds0, p0, q0, hargs, rfl, rfl, h0, r0⟩ := trodAll_cons hA
  obtain ⟨rfl, rfl, rfl⟩ := trodAll_nil r0
  obtain rfl : args = #[v0] := by cases args; simp_all
  obtain ⟨rfl, rfl⟩ := trodVars_none hV
  obtain ⟨cs0, rfl, hcs0⟩ := okWide_struct Tryd.underlying26 (hval 0 26 v0 rfl rfl)
  have k0 := h0
  have lt0 : ∀ x ∈ p0, x.block < W.heap.size := by obtain ⟨m, hm⟩ := k0; exact DataW.trod_lt m _ _ _ hm
  obtain ⟨z0, s0, e0, w0⟩ := cd_in hcs0 h0
  subst e0
  clear hA0 hval0
  refine (lists_walk z0 s0 W (tab_of_laid hL) w0).mono fun e W' ⟨he, bel⟩ => ?_
  subst he
  exact ⟨_, rfl, _, _, _, [], _, [], hW', trodAll_mk1 (shut_bool Tryd.underlying4 _), (trodAll_cons_mk (Below.trod laidOut (by kernel_rfl) (of_decide_eq_true (by kernel_rfl)) k0 bel lt0) trodAll_mk0), rfl, bel.frame _, fun h => by cases h⟩
end codeLists

theorem codeLists_holds : Rows.CodeListsSaid :=
  OpenClaim.holds_of_wide 5 Tryd.f5 rfl rfl rfl rfl rfl rfl rfl ⟨rfl, rfl, rfl, rfl, rfl⟩ rfl rfl rfl rfl rfl (by kernel_rfl) Tryd.func5 (by kernel_rfl)
    (of_decide_eq_true (by kernel_rfl)) (by unfold Func.isWrapper; first | (rw [if_pos (by decide +kernel)]; kernel_rfl) | (rw [if_neg (by decide +kernel)]; exact ⟨rfl, rfl⟩))
    (fun os started H enc _ => codeLists.lifted os started H enc)

theorem codeListsCard_holds : Rows.CodeListsCardSaid :=
  Claim7.holds_tied_plain_at .later [] [.data, .data, .data] true (true, "f9005e9bbb51a183d67557a8bddb91a2248e73d4468646ef1995ae77272fb2ba") false
    codeLists_holds (fun _ h => by cases h) (by kernel_rfl) (fun _ h => by cases h) codeLists_row_tie rfl ⟨rfl, rfl⟩ (by kernel_rfl) rfl
    (fun f fn hf hfn => by
      obtain rfl : f = 5 := Option.some.inj ((show Tryd.prog.funcNamed Rows.codeListsRow.func = some 5 by kernel_rfl).symm.trans hf) |>.symm
      obtain rfl : fn = Tryd.f5 := (Option.some.inj (Tryd.func5.symm.trans hfn)).symm
      exact ⟨by kernel_rfl, fun j t ht => by
        rw [Tryd.params5] at ht
        have hm : t ∈ [26] := by simpa using Array.mem_of_getElem? ht
        have hall : ([26].all fun u => !Tryd.prog.wantsStandIn u) = true := by kernel_rfl
        exact (show Tryd.prog.wantsStandIn t = false by simpa using List.all_eq_true.1 hall t hm)⟩)
    (by kernel_rfl)
end Go.Proofs.YtignpgoicoojiaaDoor
