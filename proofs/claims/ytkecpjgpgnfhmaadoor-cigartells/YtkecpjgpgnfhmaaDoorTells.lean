/-
  CigarTells is proved for any runs: cigar.Columns, cigar.Print and cigar.Spans answer as the document says, and the list that is handed in stays as it is. No condition; the tables that the standard library reads are tied to the program's text.
-/
import Derived.Test.YtkecpjgpgnfhmaaDoorRows
import Derived.Test.YtkecpjgpgnfhmaaDoorCards
import Derived.Test.YtkecpjgpgnfhmaaDoorTie
import Derived.Test.YtkecpjgpgnfhmaaDoorAwake
import Derived.Test.YtkecpjgpgnfhmaaDoorLent
import Derived.Test.YtkecpjgpgnfhmaaDoorRefSpans
import Derived.Test.YtkecpjgpgnfhmaaDoorRefPrint
namespace Go.Proofs.YtkecpjgpgnfhmaaDoor
open Go.RowKit

set_option maxRecDepth 100000 in
set_option maxHeartbeats 4000000 in
theorem tells_walk (ao : Option Addr) (len cap : Nat) (l : List Rn) (w : World) (htab : TabOk w) (hz : RnsAt w ao len l ∧ len ≤ cap ∧ (ao = none → len = 0 ∧ cap = 0)) :
    Calls Tryd.prog 4 #[.slice ao len cap] w fun e w' => e = .returned (.bool true) ∧ Below w.heap.size w w' := by
  obtain ⟨hz, _, hao⟩ := hz
  have hlm := hz.short
  unfold maxLen at hlm
  have HTab : Hid (TabOk w) := htab
  have HZ : Hid (RnsAt w ao len l) := hz
  have HAo : Hid (ao = none → len = 0 ∧ cap = 0) := hao
  clear hz hao htab
  by_cases hbig : 2147483647 < len
  · have hd : decide ((2147483647 : Int) < (len : Int)) = true := by simp; omega
    go_enter Tryd.func4, Tryd.ntmps4
    go_wp2
    go_ret
    exact ⟨rfl, Below.refl _ _⟩
  have hd : decide ((2147483647 : Int) < (len : Int)) = false := by simp; omega
  have hlen : len ≤ 2147483647 := by omega
  go_enter Tryd.func4, Tryd.ntmps4
  go_wp2_with fail
  refine (awake_calls w HTab.out).mono ?_
  rintro e w1 ⟨rfl, hb1⟩
  have HB1 : Hid (Below w.heap.size w w1) := hb1
  clear hb1
  go_wp2_with fail
  refine (lent_calls ao len cap l w1 (HZ.out.below HB1.out) HAo.out hlen).mono ?_
  rintro e w2 ⟨g, rfl, ho2, hb2⟩
  have HB2 : Hid (Below w.heap.size w w2) := HB1.out.trans (hb2.mono HB1.out.size)
  have HO2 : Hid (w2.ownsRow w1.heap.size 29 2 (.slice (some ⟨g, 0, none⟩) (len + 2) (len + 2)) (len + 2) (rowCells (lentL l))) := ho2
  clear ho2 hb2
  have HL : Hid (l.length = len ∧ ∀ r ∈ l, fitI r.2) := ⟨HZ.out.length, HZ.out.fits⟩
  have hl1 : (len : Int) ≤ (len : Int) + 2 := by omega
  have hl2 : len ≤ len + 2 := by omega
  go_wp2_with fail
  refine (columns_calls (some ⟨g, 0, none⟩) len (len + 2) l w2 (lent_rns HO2.out HL.out.1 HL.out.2)).mono ?_
  rintro e w3 ⟨t1, rfl, ht1, hb3⟩
  have HT1 : Hid (t1.data.toList = (colsA l).1) := ht1
  have HB3 : Hid (Below w.heap.size w w3) := HB2.out.trans (hb3.mono HB2.out.size)
  have HO3 : Hid (w3.ownsRow w1.heap.size 29 2 (.slice (some ⟨g, 0, none⟩) (len + 2) (len + 2)) (len + 2) (rowCells (lentL l))) := owned_below HO2.out hb3
  clear ht1 hb3 HO2 HB2
  go_wp2_with fail
  refine (refColumns_calls ao len cap l w3 (HZ.out.below HB3.out)).mono ?_
  rintro e w4 ⟨t2, rfl, ht2, hb4⟩
  have hteq : t1 = t2 := byte_ext (HT1.out.trans ht2.symm)
  subst hteq
  have HB4 : Hid (Below w.heap.size w w4) := HB3.out.trans (hb4.mono HB3.out.size)
  have HO4 : Hid (w4.ownsRow w1.heap.size 29 2 (.slice (some ⟨g, 0, none⟩) (len + 2) (len + 2)) (len + 2) (rowCells (lentL l))) := owned_below HO3.out hb4
  clear ht2 hb4 HO3 HB3 HT1
  generalize (colsA l).2 = e1 at *
  go_wp2_with fail
  refine (print_calls (some ⟨g, 0, none⟩) len (len + 2) l w4 (lent_rns HO4.out HL.out.1 HL.out.2) (HTab.out.below HB4.out)).mono ?_
  rintro e w5 ⟨t3, rfl, ht3, hb5⟩
  have HT3 : Hid (t3.data.toList = (textA l).1) := ht3
  have HB5 : Hid (Below w.heap.size w w5) := HB4.out.trans (hb5.mono HB4.out.size)
  have HO5 : Hid (w5.ownsRow w1.heap.size 29 2 (.slice (some ⟨g, 0, none⟩) (len + 2) (len + 2)) (len + 2) (rowCells (lentL l))) := owned_below HO4.out hb5
  clear ht3 hb5 HO4 HB4
  go_wp2_with fail
  refine (refPrint_calls ao len cap l w5 (HZ.out.below HB5.out)).mono ?_
  rintro e w6 ⟨t4, rfl, ht4, hb6⟩
  have hteq : t3 = t4 := byte_ext (HT3.out.trans ht4.symm)
  subst hteq
  have HB6 : Hid (Below w.heap.size w w6) := HB5.out.trans (hb6.mono HB5.out.size)
  have HO6 : Hid (w6.ownsRow w1.heap.size 29 2 (.slice (some ⟨g, 0, none⟩) (len + 2) (len + 2)) (len + 2) (rowCells (lentL l))) := owned_below HO5.out hb6
  clear ht4 hb6 HO5 HB5 HT3
  generalize (textA l).2 = e2 at *
  go_wp2_with fail
  refine (spans_calls (some ⟨g, 0, none⟩) len (len + 2) l w6 (lent_rns HO6.out HL.out.1 HL.out.2)).mono ?_
  rintro e w7 ⟨rfl, hb7⟩
  have HB7 : Hid (Below w.heap.size w w7) := HB6.out.trans (hb7.mono HB6.out.size)
  have HO7 : Hid (w7.ownsRow w1.heap.size 29 2 (.slice (some ⟨g, 0, none⟩) (len + 2) (len + 2)) (len + 2) (rowCells (lentL l))) := owned_below HO6.out hb7
  have HSp : Hid (Calls Tryd.prog 18 #[.slice ao len cap] w7 fun e w' => e = .returned (spansV (spansA l)) ∧ Below w7.heap.size w7 w') := refSpans_calls ao len cap l w7 (HZ.out.below HB7.out)
  clear hb7 HO6 HB6
  generalize spansA l = S at *
  obtain ⟨x, y, z⟩ := S
  simp only [spansV] at HSp ⊢
  go_wp2_with fail
  refine HSp.out.mono ?_
  rintro e w8 ⟨rfl, hb8⟩
  have HB8 : Hid (Below w.heap.size w w8) := HB7.out.trans (hb8.mono HB7.out.size)
  have HO8 : Hid (w8.ownsRow w1.heap.size 29 2 (.slice (some ⟨g, 0, none⟩) (len + 2) (len + 2)) (len + 2) (rowCells (lentL l))) := owned_below HO7.out hb8
  clear hb8 HO7 HB7 HSp
  go_wp2_with fail
  refine (whole_calls g ao len cap w1.heap.size l w8 HO8.out (HZ.out.below HB8.out) hlen).mono ?_
  rintro e w9 ⟨rfl, hb9⟩
  have HB9 : Hid (Below w.heap.size w w9) := HB8.out.trans (hb9.mono HB8.out.size)
  have hst : (t1.toList == t1.toList) = true := by simp
  have hst3 : (t3.toList == t3.toList) = true := by simp
  have hi1 : (e1 == e1) = true := by simp
  have hi2 : (e2 == e2) = true := by simp
  have hix : (x == x) = true := by simp
  have hiy : (y == y) = true := by simp
  have hiz : (z == z) = true := by simp
  clear hb9 HO8 HB8 HZ HAo HTab
  go_wp2
  go_ret
  exact ⟨rfl, HB9.out⟩
theorem laidOut : laidOutB Tryd.prog = true := by kernel_rfl

namespace cigarTells
open Go.ChangeShapes Go.WideShapes Go.ChangeAt Go.RowKit
open Go.ChangeMaps (open_string shut_string)

set_option maxRecDepth 100000 in
theorem lifted (os : Os) (started : os.Started) (H : Type) (enc : TypeId × Value → H) :
    ReturnsInHanded {} Tryd.checked os 4 .any (fun w args => (Rows.cigarTellsSpec.pre enc Tryd.prog Tryd.f4 [] false w args ∧ laidMetH Tryd.prog theLaid w) ∧ sizedMet enc Tryd.prog Tryd.f4 (OpenSpec.ofChange Rows.cigarTellsSpec) false w args)
      (Rows.cigarTellsSpec.post enc Tryd.prog Tryd.f4 false true false false) := by
  refine returnsInHanded_of_change_and (C := Tryd.checked) (X := fun w _ => laidMetH Tryd.prog theLaid w) (fun _ _ _ hh h => h.of_heap hh) own started (by kernel_rfl) Tryd.func4
    (ChangeSpec.witness_shaped (enc := enc) (C := Tryd.checked) (os := os) (X := fun w _ => laidMetH Tryd.prog theLaid w) false (World.doorLaid Tryd.prog 400 os) #[.slice none 0 0] 8 rfl (World.shaped_of_RefB (by kernel_rfl) (by kernel_rfl)) (by kernel_rfl) (by kernel_rfl) (by kernel_rfl) (door_met os _)) ?_
  intro W base args ds gs before hval0 hW _ _ hL _
  have hval : ∀ (j : Nat) t v, Tryd.f4.params[j]? = some t → args[j]? = some v → Value.okWide Tryd.prog W .any base t v := hval0
  have hW' := hW
  obtain ⟨p, q, hA0, hV, rfl, hfz, hnd⟩ := hW
  have hA : DataW.TrodAll enc Tryd.prog W 0 (fun _ => true) true Tryd.f4.params.toList args.toList ds p := hA0
  rw [Tryd.params4] at hA hval
  obtain ⟨v0, vs0, d0, ds0, p0, q0, hargs, rfl, rfl, h0, r0⟩ := trodAll_cons hA
  obtain ⟨rfl, rfl, rfl⟩ := trodAll_nil r0
  obtain rfl : args = #[v0] := by cases args; simp_all
  obtain ⟨rfl, rfl⟩ := trodVars_none hV
  obtain ⟨a0, len0, cap0, rfl⟩ := okWide_slice Tryd.underlying23 (hval 0 23 v0 rfl rfl)
  have k0 := h0
  have lt0 : ∀ x ∈ p0, x.block < W.heap.size := by obtain ⟨m, hm⟩ := k0; exact DataW.trod_lt m _ _ _ hm
  obtain ⟨z0, w0⟩ : ∃ l, RnsAt W a0 len0 l ∧ len0 ≤ cap0 ∧ (a0 = none → len0 = 0 ∧ cap0 = 0) := by
    obtain ⟨fuel, hf⟩ := h0
    have hn := rns_none hf
    obtain ⟨ao, l, c, qs, hcs, h1, h2⟩ := open_rns hf
    simp [Value.cells] at hcs
    obtain ⟨rfl, rfl, rfl⟩ := hcs
    exact ⟨qs, h2, h1, hn⟩
  clear hA0 hval0
  refine (tells_walk a0 len0 cap0 z0 W (tab_of_laid hL) w0).mono fun e W' ⟨he, bel⟩ => ?_
  subst he
  exact ⟨_, rfl, _, _, _, [], _, [], hW', trodAll_mk1 (shut_bool Tryd.underlying4 _), (trodAll_cons_mk (Below.trod laidOut (by kernel_rfl) (of_decide_eq_true (by kernel_rfl)) k0 bel lt0) trodAll_mk0), rfl, bel.frame _, fun h => by cases h⟩
end cigarTells

theorem cigarTells_holds : Rows.CigarTellsSaid :=
  OpenClaim.holds_of_wide 4 Tryd.f4 rfl rfl rfl rfl rfl rfl rfl ⟨rfl, rfl, rfl, rfl, rfl⟩ rfl rfl rfl rfl rfl (by kernel_rfl) Tryd.func4 (by kernel_rfl)
    (of_decide_eq_true (by kernel_rfl)) (by unfold Func.isWrapper; first | (rw [if_pos (by decide +kernel)]; kernel_rfl) | (rw [if_neg (by decide +kernel)]; exact ⟨rfl, rfl⟩))
    (fun os started H enc _ => cigarTells.lifted os started H enc)

theorem cigarTellsCard_holds : Rows.CigarTellsCardSaid :=
  Claim7.holds_tied_plain_at .later [] [.data, .data, .data] true (true, "27ffa17bcc795c925a63e409735585b54e98368bad0007acabe989891e486ae0") false
    cigarTells_holds (fun _ h => by cases h) (by kernel_rfl) (fun _ h => by cases h) cigarTells_row_tie rfl ⟨rfl, rfl⟩ (by kernel_rfl) rfl
    (fun f fn hf hfn => by
      obtain rfl : f = 4 := Option.some.inj ((show Tryd.prog.funcNamed Rows.cigarTellsRow.func = some 4 by kernel_rfl).symm.trans hf) |>.symm
      obtain rfl : fn = Tryd.f4 := (Option.some.inj (Tryd.func4.symm.trans hfn)).symm
      exact ⟨by kernel_rfl, fun j t ht => by
        rw [Tryd.params4] at ht
        have hm : t ∈ [23] := by simpa using Array.mem_of_getElem? ht
        have hall : ([23].all fun u => !Tryd.prog.wantsStandIn u) = true := by kernel_rfl
        exact (show Tryd.prog.wantsStandIn t = false by simpa using List.all_eq_true.1 hall t hm)⟩)
    (by kernel_rfl)
end Go.Proofs.YtkecpjgpgnfhmaaDoor
