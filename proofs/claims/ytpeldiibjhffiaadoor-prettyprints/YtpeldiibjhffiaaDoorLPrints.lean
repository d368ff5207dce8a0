/-
  PrettyPrints is proved for every input: of any two trees Print says the text, or what is wrong, as the document says it. Its conditions are the row's own: what is handed in reads as data, and the tables that the standard library reads are as its text lays them.
-/
import Derived.Test.YtpeldiibjhffiaaDoorRows
import Derived.Test.YtpeldiibjhffiaaDoorCards
import Derived.Test.YtpeldiibjhffiaaDoorTie
import Derived.SevenTiedAt
import Derived.Test.YtpeldiibjhffiaaDoorOvr
import Derived.Test.YtpeldiibjhffiaaDoorWD
namespace Go.Proofs.YtpeldiibjhffiaaDoor
open Go.RowKit Go.Deep

theorem text_bs {A : List UInt8 × Int} {f : FuncId} {args : Array Value} {w : World} (h : Calls Tryd.prog f args w fun e w' => TextPost A w e w') : Calls Tryd.prog f args w fun e w' => e = .returned (.tuple #[.string (bs A.1), .int .i64 A.2]) ∧ Below w.heap.size w w' := by
  refine h.mono ?_
  rintro e w' ⟨t, rfl, ht, hb⟩
  have hT : t = bs A.1 := by
    apply ByteArray.ext
    apply Array.toList_inj.1
    rw [ht, bs_data]
  rw [hT]
  exact ⟨rfl, hb⟩
set_option maxRecDepth 20000 in
set_option maxHeartbeats 4000000 in
theorem prints_walk (L : List It) (ao : Option Addr) (n c : Nat) (M : List It) (bo : Option Addr) (m d : Nat) (w : World) (htab : TabOk w) (hL : TreeIn w L ao n) (hM : TreeIn w M bo m) :
    Calls Tryd.prog 3 #[.agg #[.slice ao n c], .agg #[.slice bo m d]] w fun e w' => e = .returned (.bool true) ∧ Below w.heap.size w w' := by
  have hn : n ≤ maxLen := by have := hL.few; unfold mxI at this; unfold maxLen; omega
  have hm : m ≤ maxLen := by have := hM.few; unfold mxI at this; unfold maxLen; omega
  have HPa : Hid (∀ W, Below w.heap.size w W → Calls Tryd.prog 8 #[.agg #[.slice ao n c]] W fun e w' => e = .returned (.tuple #[.string (bs (printB L).1), .int .i64 (printB L).2]) ∧ Below W.heap.size W w') := fun W hW => text_bs (print_calls L ao n c W (hL.its.below hW) hn (htab.below hW))
  have HPb : Hid (∀ W, Below w.heap.size w W → Calls Tryd.prog 8 #[.agg #[.slice bo m d]] W fun e w' => e = .returned (.tuple #[.string (bs (printB M).1), .int .i64 (printB M).2]) ∧ Below W.heap.size W w') := fun W hW => text_bs (print_calls M bo m d W (hM.its.below hW) hm (htab.below hW))
  have HQa : Hid (∀ W, Below w.heap.size w W → Calls Tryd.prog 9 #[.agg #[.slice ao n c]] W fun e w' => e = .returned (.tuple #[.string (bs (printB L).1), .int .i64 (printB L).2]) ∧ Below W.heap.size W w') := fun W hW => text_bs (wprint_calls L ao n c W (hL.its.below hW) hn)
  have HQb : Hid (∀ W, Below w.heap.size w W → Calls Tryd.prog 9 #[.agg #[.slice bo m d]] W fun e w' => e = .returned (.tuple #[.string (bs (printB M).1), .int .i64 (printB M).2]) ∧ Below W.heap.size W w') := fun W hW => text_bs (wprint_calls M bo m d W (hM.its.below hW) hm)
  have HV : Hid (Below w.heap.size w ((w.alloc (.cells #[.slice ao n c] 24)).alloc (.cells #[.slice bo m d] 24)) ∧ ((w.alloc (.cells #[.slice ao n c] 24)).alloc (.cells #[.slice bo m d] 24)).heap[w.heap.size]? = some (.cells #[.slice ao n c] 24 (0, 0)) ∧ ((w.alloc (.cells #[.slice ao n c] 24)).alloc (.cells #[.slice bo m d] 24)).heap[w.heap.size + 1]? = some (.cells #[.slice bo m d] 24 (0, 0))) := ⟨below_two w _ _, heap_old (heap_alloc_new w _), twoN_new w _ _⟩
  have HN : Hid (∀ W W', (Below w.heap.size w W ∧ W.heap[w.heap.size]? = some (.cells #[.slice ao n c] 24 (0, 0)) ∧ W.heap[w.heap.size + 1]? = some (.cells #[.slice bo m d] 24 (0, 0))) → Below W.heap.size W W' → (Below w.heap.size w W' ∧ W'.heap[w.heap.size]? = some (.cells #[.slice ao n c] 24 (0, 0)) ∧ W'.heap[w.heap.size + 1]? = some (.cells #[.slice bo m d] 24 (0, 0)))) := fun W W' h hb => ⟨h.1.trans (hb.mono h.1.size), by rw [hb.block _ (lt_block h.2.1)]; exact h.2.1, by rw [hb.block _ (lt_block h.2.2)]; exact h.2.2⟩
  generalize bs (printB L).1 = s1 at *
  generalize (printB L).2 = z1 at *
  generalize bs (printB M).1 = s2 at *
  generalize (printB M).2 = z2 at *
  clear hL hM hn hm htab
  go_enter Tryd.func3, Tryd.ntmps3
  go_wp2_with fail
  refine (HPa.out _ HV.out.1).mono ?_
  rintro e w1 ⟨rfl, hb1⟩
  have H1 : Hid (Below w.heap.size w w1 ∧ w1.heap[w.heap.size]? = some (.cells #[.slice ao n c] 24 (0, 0)) ∧ w1.heap[w.heap.size + 1]? = some (.cells #[.slice bo m d] 24 (0, 0))) := HN.out _ _ HV.out hb1
  have x := blk (i := 0) H1.out.2.2 rfl
  clear hb1 HV
  go_wp2_with fail
  refine (HPb.out _ H1.out.1).mono ?_
  rintro e w2 ⟨rfl, hb2⟩
  have H2 : Hid (Below w.heap.size w w2 ∧ w2.heap[w.heap.size]? = some (.cells #[.slice ao n c] 24 (0, 0)) ∧ w2.heap[w.heap.size + 1]? = some (.cells #[.slice bo m d] 24 (0, 0))) := HN.out _ _ H1.out hb2
  clear hb2 H1 x
  have x := blk (i := 0) H2.out.2.1 rfl
  go_wp2_with fail
  refine (HPa.out _ H2.out.1).mono ?_
  rintro e w3 ⟨rfl, hb3⟩
  have H3 : Hid (Below w.heap.size w w3 ∧ w3.heap[w.heap.size]? = some (.cells #[.slice ao n c] 24 (0, 0)) ∧ w3.heap[w.heap.size + 1]? = some (.cells #[.slice bo m d] 24 (0, 0))) := HN.out _ _ H2.out hb3
  clear hb3 H2 x
  have x := blk (i := 0) H3.out.2.1 rfl
  go_wp2_with fail
  refine (HQa.out _ H3.out.1).mono ?_
  rintro e w4 ⟨rfl, hb4⟩
  have H4 : Hid (Below w.heap.size w w4 ∧ w4.heap[w.heap.size]? = some (.cells #[.slice ao n c] 24 (0, 0)) ∧ w4.heap[w.heap.size + 1]? = some (.cells #[.slice bo m d] 24 (0, 0))) := HN.out _ _ H3.out hb4
  clear hb4 H3 x
  have x := blk (i := 0) H4.out.2.2 rfl
  go_wp2_with fail
  refine (HQb.out _ H4.out.1).mono ?_
  rintro e w5 ⟨rfl, hb5⟩
  have HB : Hid (Below w.heap.size w w5) := (HN.out _ _ H4.out hb5).1
  clear hb5 H4 x HPa HPb HQa HQb HN
  go_wp2
  go_ret
  exact ⟨rfl, HB.out⟩


namespace prettyPrints
open Go.ChangeShapes Go.WideShapes Go.ChangeAt Go.RowKit
open Go.ChangeMaps (open_string shut_string)

set_option maxRecDepth 100000 in
theorem lifted (os : Os) (started : os.Started) (H : Type) (enc : TypeId × Value → H) :
    ReturnsInHanded {} Tryd.checked os 3 .any (fun w args => (Rows.prettyPrintsSpec.pre enc Tryd.prog Tryd.f3 [] false w args ∧ laidMetH Tryd.prog theLaid w) ∧ sizedMet enc Tryd.prog Tryd.f3 (OpenSpec.ofChange Rows.prettyPrintsSpec) false w args)
      (Rows.prettyPrintsSpec.post enc Tryd.prog Tryd.f3 false true false false) := by
  refine returnsInHanded_of_change_and (C := Tryd.checked) (X := fun w _ => laidMetH Tryd.prog theLaid w) (fun _ _ _ hh h => h.of_heap hh) own started (by kernel_rfl) Tryd.func3
    (ChangeSpec.witness_shaped (enc := enc) (C := Tryd.checked) (os := os) (X := fun w _ => laidMetH Tryd.prog theLaid w) false (World.doorLaid Tryd.prog 400 os) #[.agg #[.slice none 0 0], .agg #[.slice none 0 0]] 8 rfl (World.shaped_of_RefB (by kernel_rfl) (by kernel_rfl)) (by kernel_rfl) (by kernel_rfl) (by kernel_rfl) (door_met os _)) ?_
  intro W base args ds gs before hval0 hW _ hsz0 hL _
  have hval : ∀ (j : Nat) t v, Tryd.f3.params[j]? = some t → args[j]? = some v → Value.okWide Tryd.prog W .any base t v := hval0
  have hsz : (DataW.weightsEach Tryd.prog (Tryd.f3.params.toList ++ Rows.prettyPrintsSpec.plain.varTypes Tryd.prog) (ds ++ gs)).all (· ≤ reachBytes) = true := hsz0
  have hW' := hW
  obtain ⟨p, q, hA0, hV, rfl, hfz, hnd⟩ := hW
  have hA : DataW.TrodAll enc Tryd.prog W 0 (fun _ => true) true Tryd.f3.params.toList args.toList ds p := hA0
  rw [Tryd.params3] at hA hval hsz
  obtain ⟨v0, vs0, d0, ds0, p0, q0, hargs, rfl, rfl, h0, r0⟩ := trodAll_cons hA
  obtain ⟨v1, vs1, d1, ds1, p1, q1, rfl, rfl, rfl, h1, r1⟩ := trodAll_cons r0
  obtain ⟨rfl, rfl, rfl⟩ := trodAll_nil r1
  obtain rfl : args = #[v0, v1] := by cases args; simp_all
  obtain ⟨rfl, rfl⟩ := trodVars_none hV
  have hw : ∀ (j : Nat) (t : TypeId) (d : DataW H), ([24, 24] ++ Rows.prettyPrintsSpec.plain.varTypes Tryd.prog)[j]? = some t → ([d0, d1] ++ [])[j]? = some d → ∀ n ∈ d.weights Tryd.prog t, n ≤ reachBytes := fun j t d ht hd n hn =>
    of_decide_eq_true (List.all_eq_true.1 hsz _ (DataW.weights_mem_each ht hd n hn))
  obtain ⟨cs0, rfl, hcs0⟩ := okWide_struct Tryd.underlying24 (hval 0 24 v0 rfl rfl)
  have lt0 : ∀ x ∈ p0, x.block < W.heap.size := by obtain ⟨m, hm⟩ := h0; exact DataW.trod_lt m _ _ _ hm
  obtain ⟨a0, len0, cap0, L0, e0, w0⟩ := tree_in hcs0 h0 (hw 0 24 d0 rfl rfl)
  obtain ⟨cs1, rfl, hcs1⟩ := okWide_struct Tryd.underlying24 (hval 1 24 v1 rfl rfl)
  have lt1 : ∀ x ∈ p1, x.block < W.heap.size := by obtain ⟨m, hm⟩ := h1; exact DataW.trod_lt m _ _ _ hm
  obtain ⟨a1, len1, cap1, L1, e1, w1⟩ := tree_in hcs1 h1 (hw 1 24 d1 rfl rfl)
  subst e0 e1
  clear hA0 hval0
  refine (prints_walk L0 a0 len0 cap0 L1 a1 len1 cap1 W (tab_of_laid hL) w0 w1).mono fun e W' ⟨he, bel⟩ => ?_
  subst he
  exact ⟨_, rfl, _, _, _, [], _, [], hW', trodAll_mk1 (shut_bool Tryd.underlying4 _), (trodAll_cons_mk (Below.trod laidOut (by kernel_rfl) (of_decide_eq_true (by kernel_rfl)) h0 bel lt0) (trodAll_cons_mk (Below.trod laidOut (by kernel_rfl) (of_decide_eq_true (by kernel_rfl)) h1 bel lt1) trodAll_mk0)), rfl, bel.frame _, fun h => by cases h⟩
end prettyPrints

theorem prettyPrints_holds : Rows.PrettyPrintsSaid :=
  OpenClaim.holds_of_wide 3 Tryd.f3 rfl rfl rfl rfl rfl rfl rfl ⟨rfl, rfl, rfl, rfl, rfl⟩ rfl rfl rfl rfl rfl (by kernel_rfl) Tryd.func3 (by kernel_rfl)
    (of_decide_eq_true (by kernel_rfl)) (by unfold Func.isWrapper; first | (rw [if_pos (by decide +kernel)]; kernel_rfl) | (rw [if_neg (by decide +kernel)]; exact ⟨rfl, rfl⟩))
    (fun os started H enc _ => prettyPrints.lifted os started H enc)

theorem prettyPrintsCard_holds : Rows.PrettyPrintsCardSaid :=
  Claim7.holds_tied_plain_at .later [] [.data, .data, .data] true (true, "2cc4468302e316018ec97142d67c77dc637a12be2100efdb9e5087b4b51305a0") false
    prettyPrints_holds (fun _ h => by cases h) (by kernel_rfl) (fun _ h => by cases h) prettyPrints_row_tie rfl ⟨rfl, rfl⟩ (by kernel_rfl) rfl
    (fun f fn hf hfn => by
      obtain rfl : f = 3 := Option.some.inj ((show Tryd.prog.funcNamed Rows.prettyPrintsRow.func = some 3 by kernel_rfl).symm.trans hf) |>.symm
      obtain rfl : fn = Tryd.f3 := (Option.some.inj (Tryd.func3.symm.trans hfn)).symm
      exact ⟨by kernel_rfl, fun j t ht => by
        rw [Tryd.params3] at ht
        have hm : t ∈ [24, 24] := by simpa using Array.mem_of_getElem? ht
        have hall : ([24, 24].all fun u => !Tryd.prog.wantsStandIn u) = true := by kernel_rfl
        exact (show Tryd.prog.wantsStandIn t = false by simpa using List.all_eq_true.1 hall t hm)⟩)
    (by kernel_rfl)
end Go.Proofs.YtpeldiibjhffiaaDoor
