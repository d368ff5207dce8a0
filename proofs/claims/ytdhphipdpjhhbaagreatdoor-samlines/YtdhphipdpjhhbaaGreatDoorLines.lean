/-
  SamLines: every record's line; its runs stay as they are.
-/
import Derived.Test.YtdhphipdpjhhbaaGreatDoorRows
import Derived.Test.YtdhphipdpjhhbaaGreatDoorCards
import Derived.Test.YtdhphipdpjhhbaaGreatDoorTie
import Derived.Test.YtdhphipdpjhhbaaGreatDoorAwake
import Derived.Test.YtdhphipdpjhhbaaGreatDoorWeighs
import Derived.Test.YtdhphipdpjhhbaaGreatDoorRefLine
import Derived.Test.YtdhphipdpjhhbaaGreatDoorOver
import Derived.WalkKit
namespace Go.Proofs.YtdhphipdpjhhbaaGreatDoor
open Go.RowKit

theorem one_rec {W : World} {v : RV} {l : List Rn} {g : Nat} (hg : W.heap[g]? = some (.cells #[.string v.name, .bool v.mapped, .string v.ref, .int .i64 v.pos, .slice v.ao v.len v.cap, .string v.bases, .string v.quals, .int .i64 v.score] 24 (0, 0))) (hok : RecOk W v l) : RecsAt W (some ⟨g, 0, none⟩) 1 [(v, l)] := by
  obtain ⟨c0, c1, c2, c3, c4, c5, c6, c7⟩ := cells8 hg
  refine ⟨rfl, by decide, by intro q hq; simp at hq; subst hq; exact hok, fun _ => ⟨g, 0, rfl, fun i q hq => ?_⟩⟩
  match i, hq with
  | 0, hq => simp at hq; subst hq; exact ⟨by simpa using c0, by simpa using c1, by simpa using c2, by simpa using c3, by simpa using c4, by simpa using c5, by simpa using c6, by simpa using c7⟩
set_option maxRecDepth 20000 in
set_option maxHeartbeats 4000000 in
theorem lines_walk (v : RV) (l : List Rn) (w : World) (hstd : Std w) (hin : RecIn w v l) : Calls Tryz.prog 3 #[v.val] w fun e w' => e = .returned (.bool true) ∧ Below w.heap.size w w' := by
  obtain ⟨nm, m, rf, p, ao, len, cap, b, q, sc⟩ := v
  simp only [RV.val]
  have HStd : Hid (∀ W, Below w.heap.size w W → Std W) := fun W hW => hstd.below hW
  have HOk : Hid (∀ W, Below w.heap.size w W → RecOk W ⟨nm, m, rf, p, ao, len, cap, b, q, sc⟩ l) := fun W hW => hin.ok.below hW
  have HNo : Hid (ao = none → len = 0 ∧ cap = 0) := hin.none
  obtain ⟨q1, q2, q3⟩ := alloc2_heap w (.cells #[.string nm, .bool m, .string rf, .int .i64 p, .slice ao len cap, .string b, .string q, .int .i64 sc] 24) (.cells #[.string nm, .bool m, .string rf, .int .i64 p, .slice ao len cap, .string b, .string q, .int .i64 sc] 24)
  have HX : Hid (Below w.heap.size w ((w.alloc (.cells #[.string nm, .bool m, .string rf, .int .i64 p, .slice ao len cap, .string b, .string q, .int .i64 sc] 24)).alloc (.cells #[.string nm, .bool m, .string rf, .int .i64 p, .slice ao len cap, .string b, .string q, .int .i64 sc] 24)) ∧ ((w.alloc (.cells #[.string nm, .bool m, .string rf, .int .i64 p, .slice ao len cap, .string b, .string q, .int .i64 sc] 24)).alloc (.cells #[.string nm, .bool m, .string rf, .int .i64 p, .slice ao len cap, .string b, .string q, .int .i64 sc] 24)).heap[w.heap.size]? = some (.cells #[.string nm, .bool m, .string rf, .int .i64 p, .slice ao len cap, .string b, .string q, .int .i64 sc] 24 (0, 0)) ∧ ((w.alloc (.cells #[.string nm, .bool m, .string rf, .int .i64 p, .slice ao len cap, .string b, .string q, .int .i64 sc] 24)).alloc (.cells #[.string nm, .bool m, .string rf, .int .i64 p, .slice ao len cap, .string b, .string q, .int .i64 sc] 24)).heap[w.heap.size + 1]? = some (.cells #[.string nm, .bool m, .string rf, .int .i64 p, .slice ao len cap, .string b, .string q, .int .i64 sc] 24 (0, 0))) := ⟨q3, q1, q2⟩
  clear hin hstd q1 q2 q3
  go_enter Tryz.func3, Tryz.ntmps3
  go_wp2_with fail
  generalize hwx : ((w.alloc (.cells #[.string nm, .bool m, .string rf, .int .i64 p, .slice ao len cap, .string b, .string q, .int .i64 sc] 24)).alloc (.cells #[.string nm, .bool m, .string rf, .int .i64 p, .slice ao len cap, .string b, .string q, .int .i64 sc] 24)) = wx at *
  clear hwx
  refine (weighs_calls (some ⟨w.heap.size + 1, 0, none⟩) 1 1 [(⟨nm, m, rf, p, ao, len, cap, b, q, sc⟩, l)] wx (one_rec HX.out.2.2 (HOk.out _ HX.out.1))).mono ?_
  rintro e w1 ⟨n, rfl, hn, hb1⟩
  have HJ1 : Hid (Below w.heap.size w w1 ∧ w1.heap[w.heap.size]? = some (.cells #[.string nm, .bool m, .string rf, .int .i64 p, .slice ao len cap, .string b, .string q, .int .i64 sc] 24 (0, 0))) := ⟨HX.out.1.trans (hb1.mono HX.out.1.size), keepB HX.out.2.1 hb1⟩
  have HN : Hid (n ≤ 2147483647 → len ≤ 2147483647) := fun h => (hn h).2 _ (List.mem_singleton.2 rfl)
  clear hb1 hn HX
  by_cases hbig : n ≤ 2147483647
  case neg =>
    have hd : decide (n > 2147483647) = true := by simp; omega
    go_wp2
    go_ret
    exact ⟨rfl, HJ1.out.1⟩
  have hd : decide (n > 2147483647) = false := by simp; omega
  have hlen := HN.out hbig
  clear HN
  go_wp2_with fail
  refine (awake_calls w1 (HStd.out _ HJ1.out.1)).mono ?_
  rintro e w2 ⟨rfl, hb2⟩
  have HJ2 : Hid (Below w.heap.size w w2 ∧ w2.heap[w.heap.size]? = some (.cells #[.string nm, .bool m, .string rf, .int .i64 p, .slice ao len cap, .string b, .string q, .int .i64 sc] 24 (0, 0))) := ⟨HJ1.out.1.trans (hb2.mono HJ1.out.1.size), keepB HJ1.out.2 hb2⟩
  clear hb2 HJ1
  obtain ⟨z0, z1, z2, z3, z4, z5, z6, z7⟩ := cells8 HJ2.out.2
  go_wp2_with fail
  refine (lent_calls ⟨nm, m, rf, p, ao, len, cap, b, q, sc⟩ l w2 (HOk.out _ HJ2.out.1).runs HNo.out hlen).mono ?_
  rintro e w3 ⟨g, rfl, ho3, hb3⟩
  simp only at ho3
  simp only [RV.val]
  have HJ3 : Hid (Below w.heap.size w w3 ∧ w3.heap[w.heap.size]? = some (.cells #[.string nm, .bool m, .string rf, .int .i64 p, .slice ao len cap, .string b, .string q, .int .i64 sc] 24 (0, 0)) ∧ w3.ownsRow w2.heap.size 37 2 (.slice (some ⟨g, 0, none⟩) (len + 2) (len + 2)) (len + 2) (rowCells (lentL l))) := ⟨HJ2.out.1.trans (hb3.mono HJ2.out.1.size), keepB HJ2.out.2 hb3, ho3⟩
  clear hb3 ho3 HJ2 z0 z1 z2 z3 z4 z5 z6 z7
  have HJ4 : Hid (Below w.heap.size w (w3.alloc (.cells #[.string nm, .bool m, .string rf, .int .i64 p, .slice (some ⟨g, 0, none⟩) len (len + 2), .string b, .string q, .int .i64 sc] 24)) ∧ (w3.alloc (.cells #[.string nm, .bool m, .string rf, .int .i64 p, .slice (some ⟨g, 0, none⟩) len (len + 2), .string b, .string q, .int .i64 sc] 24)).heap[w.heap.size]? = some (.cells #[.string nm, .bool m, .string rf, .int .i64 p, .slice ao len cap, .string b, .string q, .int .i64 sc] 24 (0, 0)) ∧ (w3.alloc (.cells #[.string nm, .bool m, .string rf, .int .i64 p, .slice (some ⟨g, 0, none⟩) len (len + 2), .string b, .string q, .int .i64 sc] 24)).ownsRow w2.heap.size 37 2 (.slice (some ⟨g, 0, none⟩) (len + 2) (len + 2)) (len + 2) (rowCells (lentL l)) ∧ (w3.alloc (.cells #[.string nm, .bool m, .string rf, .int .i64 p, .slice (some ⟨g, 0, none⟩) len (len + 2), .string b, .string q, .int .i64 sc] 24)).heap[w3.heap.size]? = some (.cells #[.string nm, .bool m, .string rf, .int .i64 p, .slice (some ⟨g, 0, none⟩) len (len + 2), .string b, .string q, .int .i64 sc] 24 (0, 0))) := by
    have hn := below_new w3 (.cells #[.string nm, .bool m, .string rf, .int .i64 p, .slice (some ⟨g, 0, none⟩) len (len + 2), .string b, .string q, .int .i64 sc] 24)
    exact ⟨HJ3.out.1.trans (hn.mono HJ3.out.1.size), keepB HJ3.out.2.1 hn, owned_below HJ3.out.2.2 hn, heap_alloc_new w3 _⟩
  clear HJ3
  go_wp2_with fail
  generalize hw4 : w3.alloc (.cells #[.string nm, .bool m, .string rf, .int .i64 p, .slice (some ⟨g, 0, none⟩) len (len + 2), .string b, .string q, .int .i64 sc] 24) = w4 at *
  clear hw4
  have hR : (RV.R ⟨nm, m, rf, p, some ⟨g, 0, none⟩, len, len + 2, b, q, sc⟩ l) = RV.R ⟨nm, m, rf, p, ao, len, cap, b, q, sc⟩ l := rfl
  have hline := line_calls ⟨nm, m, rf, p, some ⟨g, 0, none⟩, len, len + 2, b, q, sc⟩ l w4 ⟨(HOk.out _ HJ4.out.1).name, (HOk.out _ HJ4.out.1).ref, (HOk.out _ HJ4.out.1).bases, (HOk.out _ HJ4.out.1).quals, (HOk.out _ HJ4.out.1).pos, (HOk.out _ HJ4.out.1).score, lent_rns HJ4.out.2.2.1 (HOk.out _ HJ4.out.1).runs.length (HOk.out _ HJ4.out.1).runs.fits⟩ (HStd.out _ HJ4.out.1)
  rw [hR] at hline
  have HRf : Hid (∀ W, Below w.heap.size w W → Calls Tryz.prog 13 #[.agg #[.string nm, .bool m, .string rf, .int .i64 p, .slice ao len cap, .string b, .string q, .int .i64 sc]] W fun e w' => TextPost (lineA (RV.R ⟨nm, m, rf, p, ao, len, cap, b, q, sc⟩ l)) W e w') := fun W hW => refLine_calls ⟨nm, m, rf, p, ao, len, cap, b, q, sc⟩ l W (HOk.out W hW)
  generalize lineA (RV.R ⟨nm, m, rf, p, ao, len, cap, b, q, sc⟩ l) = LA at *
  refine hline.mono ?_
  rintro e w5 ⟨t, rfl, ht, hb5⟩
  have HT : Hid (t.data.toList = LA.1) := ht
  have HJ5 : Hid (Below w.heap.size w w5 ∧ w5.heap[w.heap.size]? = some (.cells #[.string nm, .bool m, .string rf, .int .i64 p, .slice ao len cap, .string b, .string q, .int .i64 sc] 24 (0, 0)) ∧ w5.ownsRow w2.heap.size 37 2 (.slice (some ⟨g, 0, none⟩) (len + 2) (len + 2)) (len + 2) (rowCells (lentL l)) ∧ w5.heap[w3.heap.size]? = some (.cells #[.string nm, .bool m, .string rf, .int .i64 p, .slice (some ⟨g, 0, none⟩) len (len + 2), .string b, .string q, .int .i64 sc] 24 (0, 0))) := ⟨HJ4.out.1.trans (hb5.mono HJ4.out.1.size), keepB HJ4.out.2.1 hb5, owned_below HJ4.out.2.2.1 hb5, keepB HJ4.out.2.2.2 hb5⟩
  clear hb5 ht hline hR HJ4
  obtain ⟨z0, z1, z2, z3, z4, z5, z6, z7⟩ := cells8 HJ5.out.2.1
  go_wp2_with fail
  refine (HRf.out _ HJ5.out.1).mono ?_
  rintro e w6 ⟨u, rfl, hu, hb6⟩
  have HU : Hid (u.data.toList = LA.1) := hu
  have HJ6 : Hid (Below w.heap.size w w6 ∧ w6.heap[w.heap.size]? = some (.cells #[.string nm, .bool m, .string rf, .int .i64 p, .slice ao len cap, .string b, .string q, .int .i64 sc] 24 (0, 0)) ∧ w6.ownsRow w2.heap.size 37 2 (.slice (some ⟨g, 0, none⟩) (len + 2) (len + 2)) (len + 2) (rowCells (lentL l)) ∧ w6.heap[w3.heap.size]? = some (.cells #[.string nm, .bool m, .string rf, .int .i64 p, .slice (some ⟨g, 0, none⟩) len (len + 2), .string b, .string q, .int .i64 sc] 24 (0, 0))) := ⟨HJ5.out.1.trans (hb6.mono HJ5.out.1.size), keepB HJ5.out.2.1 hb6, owned_below HJ5.out.2.2.1 hb6, keepB HJ5.out.2.2.2 hb6⟩
  clear hb6 hu HJ5 HRf z0 z1 z2 z3 z4 z5 z6 z7
  obtain ⟨z0, z1, z2, z3, z4, z5, z6, z7⟩ := cells8 HJ6.out.2.1
  obtain ⟨y0, y1, y2, y3, y4, y5, y6, y7⟩ := cells8 HJ6.out.2.2.2
  go_wp2_with fail
  refine (whole_calls g ⟨nm, m, rf, p, ao, len, cap, b, q, sc⟩ w2.heap.size l w6 HJ6.out.2.2.1 (HOk.out _ HJ6.out.1) hlen).mono ?_
  rintro e w7 ⟨rfl, hb7⟩
  have HB7 : Hid (Below w.heap.size w w7) := HJ6.out.1.trans (hb7.mono HJ6.out.1.size)
  have htu : (t.toList == u.toList) = true := by rw [ByteArray.toList_eq, ByteArray.toList_eq, HT.out, HU.out]; simp
  clear hb7 HJ6 z0 z1 z2 z3 z4 z5 z6 z7 y0 y1 y2 y3 y4 y5 y6 y7 HT HU
  go_wp2
  go_ret
  exact ⟨rfl, HB7.out⟩

namespace samLines
open Go.ChangeShapes Go.WideShapes Go.ChangeAt Go.RowKit
open Go.ChangeMaps (open_string shut_string)

theorem laidOut : laidOutB Tryz.prog = true := by kernel_rfl
theorem reads (os : Os) {H : Type} (enc : TypeId × Value → H) : ∃ places, DataW.whole enc Tryz.prog ((World.laidAll Tryz.prog os theLaid).forCall (fun _ _ => 0) ⟨#[], #[.agg #[.string ⟨#[]⟩, .bool false, .string ⟨#[]⟩, .int .i64 0, .slice none 0 0, .string ⟨#[]⟩, .string ⟨#[]⟩, .int .i64 0]], []⟩).memory Tryz.f3.params.toList Rows.samLinesSpec.vars false #[.agg #[.string ⟨#[]⟩, .bool false, .string ⟨#[]⟩, .int .i64 0, .slice none 0 0, .string ⟨#[]⟩, .string ⟨#[]⟩, .int .i64 0]].toList 8 = some ([.agg [.lit (.string []), .lit (.bool false), .lit (.string []), .lit (.int .i64 0), .nil, .lit (.string []), .lit (.string []), .lit (.int .i64 0)]], [], places) :=
  ⟨[], by kernel_rfl⟩

set_option maxRecDepth 100000 in
theorem lifted (os : Os) (started : os.Started) (H : Type) (enc : TypeId × Value → H) (F : Stop.Interp) :
    ReturnsInHanded {} Tryz.checked os 3 .any ((OpenSpec.ofChange Rows.samLinesSpec).preRow enc Tryz.prog Tryz.f3 Rows.samLinesRow.domain false Rows.samLinesRow.laid) (((OpenSpec.ofChange Rows.samLinesSpec).at F).post enc Tryz.prog Tryz.f3 false true false false) := by
  obtain ⟨places, hx⟩ := reads os enc
  refine returnsInHanded_of_row (C := Tryz.checked) (s := (OpenSpec.ofChange Rows.samLinesSpec)) own started (by kernel_rfl) Tryz.func3
    (witness_row_at (enc := enc) (C := Tryz.checked) false (World.laidAll Tryz.prog os theLaid) #[.agg #[.string ⟨#[]⟩, .bool false, .string ⟨#[]⟩, .int .i64 0, .slice none 0 0, .string ⟨#[]⟩, .string ⟨#[]⟩, .int .i64 0]] (World.laidAll_os _ _ _) (by kernel_rfl) (by kernel_rfl) (by kernel_rfl)
      (OpenSpec.preRow_of_cond 8 hx (by kernel_rfl) (fun k hk => by cases hk) (by kernel_rfl) (laid_met os _))) ?_
  intro W base args ds gs before hval0 hW _ hcond _ hL hSh _
  have hval : ∀ (j : Nat) t v, Tryz.f3.params[j]? = some t → args[j]? = some v → Value.okWide Tryz.prog W .any base t v := hval0
  have hW' := hW
  obtain ⟨p, q, hA0, hV, rfl, hfz, hnd⟩ := hW
  have hA : DataW.TrodAll enc Tryz.prog W 0 (fun _ => true) true Tryz.f3.params.toList args.toList ds p := hA0
  rw [Tryz.params3] at hA hval
  obtain ⟨v0, vs0, d0, ds0, p0, q0, hargs, rfl, rfl, h0, r0⟩ := trodAll_cons hA
  obtain ⟨rfl, rfl, rfl⟩ := trodAll_nil r0
  obtain rfl : args = #[v0] := by cases args; simp_all
  obtain ⟨rfl, rfl⟩ := trodVars_none hV
  obtain ⟨cs0, rfl, hcs0⟩ := okWide_struct Tryz.underlying24 (hval 0 24 v0 rfl rfl)
  have k0 := h0
  have lt0 : ∀ x ∈ p0, x.block < W.heap.size := by obtain ⟨m, hm⟩ := k0; exact DataW.trod_lt m _ _ _ hm
  obtain ⟨a0, z0, e0, w0⟩ : ∃ v l, cs0 = #[.string v.name, .bool v.mapped, .string v.ref, .int .i64 v.pos, .slice v.ao v.len v.cap, .string v.bases, .string v.quals, .int .i64 v.score] ∧ RecIn W v l := by
    obtain ⟨fuel, hf⟩ := h0
    obtain ⟨v, l, hl, hin⟩ := open_rec (by rw [show (Value.agg cs0).cells.toList = cs0.toList from rfl, Array.length_toList, hcs0]; kernel_rfl) hf
    exact ⟨v, l, Array.toList_inj.1 hl, hin⟩
  subst e0
  clear hA0 hval0
  refine (lines_walk a0 z0 W (std_of_laid hL hSh) w0).mono fun e W' ⟨he, bel⟩ => ?_
  subst he
  exact ⟨_, rfl, _, _, _, [], _, [], hW', trodAll_mk1 (shut_bool Tryz.underlying4 _), (trodAll_cons_mk (Below.trod laidOut (by kernel_rfl) (of_decide_eq_true (by kernel_rfl)) k0 bel lt0) trodAll_mk0), rfl, bel.frame _, fun h => by cases h⟩
end samLines

theorem samLines_holds : Rows.SamLinesSaid :=
  OpenClaim.holds_of_cond 3 Tryz.f3 rfl rfl rfl rfl rfl rfl rfl ⟨rfl, rfl, rfl, rfl, rfl⟩ rfl rfl rfl rfl rfl (by kernel_rfl) Tryz.func3 (by kernel_rfl)
    (of_decide_eq_true (by kernel_rfl)) (by unfold Func.isWrapper; first | (rw [if_pos (by decide +kernel)]; kernel_rfl) | (rw [if_neg (by decide +kernel)]; exact ⟨rfl, rfl⟩))
    (fun os started H enc _ F => by rw [OpenClaim.pre_eq_preRow]; exact samLines.lifted os started H enc F)

theorem samLinesCard_holds : Rows.SamLinesCardSaid :=
  Claim7.holds_tied_plain_at .later [] _ _ _ _
    samLines_holds (fun _ h => by cases h) (by kernel_rfl) (fun _ h => by cases h) samLines_row_tie rfl ⟨rfl, rfl⟩ (by kernel_rfl) rfl
    (fun f fn hf hfn => by
      obtain rfl : f = 3 := Option.some.inj ((show Tryz.prog.funcNamed Rows.samLinesRow.func = some 3 by kernel_rfl).symm.trans hf) |>.symm
      obtain rfl : fn = Tryz.f3 := (Option.some.inj (Tryz.func3.symm.trans hfn)).symm
      exact ⟨by kernel_rfl, fun j t ht => by
        rw [Tryz.params3] at ht
        have hm : t ∈ [24] := by simpa using Array.mem_of_getElem? ht
        have hall : ([24].all fun u => !Tryz.prog.wantsStandIn u) = true := by kernel_rfl
        exact (show Tryz.prog.wantsStandIn t = false by simpa using List.all_eq_true.1 hall t hm)⟩)
    (by kernel_rfl)
end Go.Proofs.YtdhphipdpjhhbaaGreatDoor
