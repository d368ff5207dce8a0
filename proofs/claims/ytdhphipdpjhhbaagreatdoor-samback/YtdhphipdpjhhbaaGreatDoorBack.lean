/-
  SamBack: there and back: a record by its line, a file by its text.
-/
import Derived.Test.YtdhphipdpjhhbaaGreatDoorRows
import Derived.Test.YtdhphipdpjhhbaaGreatDoorCards
import Derived.Test.YtdhphipdpjhhbaaGreatDoorTie
import Derived.Test.YtdhphipdpjhhbaaGreatDoorParseW
import Derived.Test.YtdhphipdpjhhbaaGreatDoorRefFile
import Derived.Test.YtdhphipdpjhhbaaGreatDoorWeighs
import Derived.Test.YtdhphipdpjhhbaaGreatDoorAlike
import Derived.Test.YtdhphipdpjhhbaaGreatDoorBackP
import Derived.Test.YtdhphipdpjhhbaaGreatDoorOver
import Derived.WalkKit
namespace Go.Proofs.YtdhphipdpjhhbaaGreatDoor
open Go.RowKit

set_option maxRecDepth 20000 in
set_option maxHeartbeats 8000000 in
theorem back_walk (ao : Option Addr) (len cap : Nat) (qs : List Sq) (bo : Option Addr) (n cap2 : Nat) (xs : List Rl) (w : World) (hstd : Std w) (hq : SqsIn w ao len cap qs) (hx : RecsIn w bo n cap2 xs) :
    Calls Tryz.prog 7 #[.slice ao len cap, .slice bo n cap2] w fun e w' => e = .returned (.bool true) ∧ Below w.heap.size w w' := by
  have HStd : Hid (∀ W, Below w.heap.size w W → Std W) := fun W hW => hstd.below hW
  have HQ : Hid (∀ W, Below w.heap.size w W → SqsAt W ao len qs) := fun W hW => hq.at_.below hW
  have HX : Hid (∀ W, Below w.heap.size w W → RecsAt W bo n xs) := fun W hW => hx.at_.below hW
  have HQL : Hid (qs.length = len) := hq.at_.length
  have HXL : Hid (xs.length = n) := hx.at_.length
  have HFine : Hid (∀ x ∈ xs, fit64 x.R.score) := fun x hm => (hx.each x hm).ok.score
  have hm1 : len ≤ maxLen := hq.at_.short
  have hm2 : n ≤ maxLen := hx.at_.short
  unfold maxLen at hm1 hm2
  clear hstd hq hx
  go_enter Tryz.func7, Tryz.ntmps7
  go_wp2_with fail
  refine (weighs_calls bo n cap2 xs w (HX.out _ (Below.refl _ _))).mono ?_
  rintro e w1 ⟨N, rfl, _, hb1⟩
  have HB1 : Hid (Below w.heap.size w w1) := hb1
  clear hb1
  go_wp2_with fail
  refine (bulk_calls ao len cap qs w1 (HQ.out _ HB1.out)).mono ?_
  rintro e w2 ⟨M, rfl, _, hb2⟩
  have HB2 : Hid (Below w.heap.size w w2) := HB1.out.trans (hb2.mono HB1.out.size)
  clear hb2 HB1
  by_cases hbn : N ≤ 536870911
  case neg =>
    have hd : decide (N > 536870911) = true := by simp; omega
    go_wp2
    go_ret
    exact ⟨rfl, HB2.out⟩
  have hd : decide (N > 536870911) = false := by simp; omega
  by_cases hbm : M ≤ 536870911
  case neg =>
    have hd2 : decide (M > 536870911) = true := by simp; omega
    go_wp2
    go_ret
    exact ⟨rfl, HB2.out⟩
  have hd2 : decide (M > 536870911) = false := by simp; omega
  go_wp2_with fail
  refine (awake_calls w2 (HStd.out _ HB2.out)).mono ?_
  rintro e w3 ⟨rfl, hb3⟩
  have HB3 : Hid (Below w.heap.size w w3) := HB2.out.trans (hb3.mono HB2.out.size)
  clear hb3 HB2 hbn hbm hd hd2
  go_wp2_with fail
  go_loopw [8] (fun iv wr => ∃ k : Nat, k ≤ n ∧ iv = .int .i64 k ∧ Below w.heap.size w wr) (fun iv _ => n - (intOf iv).toNat)
  case atStart => exact ⟨0, Nat.zero_le _, rfl, HB3.out⟩
  case round =>
    obtain ⟨k, hk, rfl, hbel⟩ := hrel
    have HB : Hid (Below w.heap.size w wr) := hbel
    clear hbel HB3
    by_cases hlt : k < n
    · have hdk : decide ((k : Int) < (n : Int)) = true := by simp; omega
      have hkI : (k : Int) < (n : Int) := by omega
      obtain ⟨b1, o1, rfl, _⟩ := (HX.out _ HB.out).cells (by omega)
      obtain ⟨⟨⟨nm, m, rf, p, xo, xl, xc, b, q, sc⟩, l⟩, hxk⟩ : ∃ x, xs[k]? = some x := ⟨_, List.getElem?_eq_getElem (by rw [HXL.out]; exact hlt)⟩
      have HC : Hid (∀ W, Below w.heap.size w W → W.cell? ⟨b1, o1 + k * 8, none⟩ = some (.string nm) ∧ W.cell? ⟨b1, o1 + k * 8 + 1, none⟩ = some (.bool m) ∧ W.cell? ⟨b1, o1 + k * 8 + 2, none⟩ = some (.string rf) ∧ W.cell? ⟨b1, o1 + k * 8 + 3, none⟩ = some (.int .i64 p) ∧ W.cell? ⟨b1, o1 + k * 8 + 4, none⟩ = some (.slice xo xl xc) ∧ W.cell? ⟨b1, o1 + k * 8 + 5, none⟩ = some (.string b) ∧ W.cell? ⟨b1, o1 + k * 8 + 6, none⟩ = some (.string q) ∧ W.cell? ⟨b1, o1 + k * 8 + 7, none⟩ = some (.int .i64 sc)) := by
        intro W hW
        obtain ⟨b', o', e, hcs⟩ := (HX.out _ hW).cells (by omega)
        cases e
        exact hcs k _ hxk
      have HOk : Hid (∀ W, Below w.heap.size w W → RecOk W ⟨nm, m, rf, p, xo, xl, xc, b, q, sc⟩ l) := fun W hW => (HX.out _ hW).fine _ (List.mem_of_getElem? hxk)
      have HSc : Hid (fit64 (RV.R ⟨nm, m, rf, p, xo, xl, xc, b, q, sc⟩ l).score) := HFine.out _ (List.mem_of_getElem? hxk)
      have HLn : Hid (Calls Tryz.prog 12 #[.agg #[.string nm, .bool m, .string rf, .int .i64 p, .slice xo xl xc, .string b, .string q, .int .i64 sc]] wr fun e w' => TextPost (lineA (RV.R ⟨nm, m, rf, p, xo, xl, xc, b, q, sc⟩ l)) wr e w') := line_calls ⟨nm, m, rf, p, xo, xl, xc, b, q, sc⟩ l wr (HOk.out _ HB.out) (HStd.out _ HB.out)
      have HRg : Hid (∀ W, Below w.heap.size w W → Calls Tryz.prog 26 #[.agg #[.string nm, .bool m, .string rf, .int .i64 p, .slice xo xl xc, .string b, .string q, .int .i64 sc]] W fun e w' => e = .returned (.bool (rightR (RV.R ⟨nm, m, rf, p, xo, xl, xc, b, q, sc⟩ l))) ∧ Below W.heap.size W w') := fun W hW => refRec_calls ⟨nm, m, rf, p, xo, xl, xc, b, q, sc⟩ l W (HOk.out _ hW)
      obtain ⟨x0, x1, x2, x3, x4, x5, x6, x7⟩ := HC.out _ HB.out
      clear hxk
      go_wp2_with fail
      refine HLn.out.mono ?_
      rintro e w4 ⟨t, rfl, ht, hb4⟩
      have HT : Hid (t.data.toList = (lineA (RV.R ⟨nm, m, rf, p, xo, xl, xc, b, q, sc⟩ l)).1) := ht
      have HB4 : Hid (Below w.heap.size w w4) := HB.out.trans (hb4.mono HB.out.size)
      clear ht hb4 HLn x0 x1 x2 x3 x4 x5 x6 x7 HB
      obtain ⟨x0, x1, x2, x3, x4, x5, x6, x7⟩ := HC.out _ HB4.out
      go_wp2_with fail
      refine (HRg.out _ HB4.out).mono ?_
      rintro e w5 ⟨rfl, hb5⟩
      have HB5 : Hid (Below w.heap.size w w5) := HB4.out.trans (hb5.mono HB4.out.size)
      clear hb5 HRg x0 x1 x2 x3 x4 x5 x6 x7 HB4
      cases hright : rightR (RV.R ⟨nm, m, rf, p, xo, xl, xc, b, q, sc⟩ l) with
      | false =>
        have hA : (lineA (RV.R ⟨nm, m, rf, p, xo, xl, xc, b, q, sc⟩ l)).2 = 51 := by rw [lineA, hright]; rfl
        rw [hA]
        clear hA hright HT HC HOk HSc
        go_wp2
        go_roundw
        case rel => exact ⟨k + 1, by omega, by go_num, HB5.out⟩
        case measure => simp [intOf]; omega
      | true =>
        have hA : lineA (RV.R ⟨nm, m, rf, p, xo, xl, xc, b, q, sc⟩ l) = (lineR (RV.R ⟨nm, m, rf, p, xo, xl, xc, b, q, sc⟩ l), 0) := by rw [lineA, hright]; rfl
        rw [hA] at HT
        rw [hA]
        have hts : t.size ≤ 1048576 := by rw [← size_toList, HT.out]; exact lineR_fit hright HSc.out
        have HRd : Hid (Calls Tryz.prog 15 #[.string t] w5 fun e w' => RecPost (RV.R ⟨nm, m, rf, p, xo, xl, xc, b, q, sc⟩ l, 0) w5 e w') := by
          have h := record_calls t w5 hts (HStd.out _ HB5.out)
          rw [HT.out] at h
          simp only at h
          rw [recA_some (recB_some hright HSc.out)] at h
          exact h
        have HSm : Hid (SmR (RV.R ⟨nm, m, rf, p, xo, xl, xc, b, q, sc⟩ l)) := right_sm hright HSc.out
        clear hA hright HT hts
        go_wp2_with fail
        refine HRd.out.mono ?_
        rintro e w6 ⟨v, rfl, hvR, hown, hb6⟩
        obtain ⟨vnm, vm, vrf, vp, vao, vlen, vcap, vb, vq, vs⟩ := v
        simp only [RV.val]
        have HJ : Hid (Below w.heap.size w (w6.alloc (.cells #[.string vnm, .bool vm, .string vrf, .int .i64 vp, .slice vao vlen vcap, .string vb, .string vq, .int .i64 vs] 24)).drew ∧ (w6.alloc (.cells #[.string vnm, .bool vm, .string vrf, .int .i64 vp, .slice vao vlen vcap, .string vb, .string vq, .int .i64 vs] 24)).drew.heap[w6.heap.size]? = some (.cells #[.string vnm, .bool vm, .string vrf, .int .i64 vp, .slice vao vlen vcap, .string vb, .string vq, .int .i64 vs] 24 (0, 0))) := ⟨(HB5.out.trans (hb6.mono HB5.out.size)).trans ((below_new w6 _).drew.mono (HB5.out.trans (hb6.mono HB5.out.size)).size), heap_alloc_new w6 _⟩
        have HVR : Hid (RV.R ⟨vnm, vm, vrf, vp, vao, vlen, vcap, vb, vq, vs⟩ (RV.R ⟨nm, m, rf, p, xo, xl, xc, b, q, sc⟩ l).runs = RV.R ⟨nm, m, rf, p, xo, xl, xc, b, q, sc⟩ l) := hvR
        have HOw : Hid ((w6.alloc (.cells #[.string vnm, .bool vm, .string vrf, .int .i64 vp, .slice vao vlen vcap, .string vb, .string vq, .int .i64 vs] 24)).drew.ownsRow w5.heap.size 37 2 (.slice vao vlen vcap) (RV.R ⟨nm, m, rf, p, xo, xl, xc, b, q, sc⟩ l).runs.length (rowCells (RV.R ⟨nm, m, rf, p, xo, xl, xc, b, q, sc⟩ l).runs)) := owned_below hown (below_new w6 _).drew
        clear hvR hown hb6 HRd
        go_wp2_with fail
        generalize hwx : w6.alloc (.cells #[.string vnm, .bool vm, .string vrf, .int .i64 vp, .slice vao vlen vcap, .string vb, .string vq, .int .i64 vs] 24) = wx at *
        clear hwx
        generalize w6.heap.size = g at *
        have HSame : Hid (∀ W, Hid (Below wx.drew.heap.size wx.drew W) → Calls Tryz.prog 17 #[.agg #[.string vnm, .bool vm, .string vrf, .int .i64 vp, .slice vao vlen vcap, .string vb, .string vq, .int .i64 vs], .agg #[.string nm, .bool m, .string rf, .int .i64 p, .slice xo xl xc, .string b, .string q, .int .i64 sc]] W fun e w' => e = .returned (.bool true) ∧ Hid (Below w.heap.size w w') ∧ (w'.cell? ⟨g, 0, none⟩ = some (.string vnm) ∧ w'.cell? ⟨g, 1, none⟩ = some (.bool vm) ∧ w'.cell? ⟨g, 2, none⟩ = some (.string vrf) ∧ w'.cell? ⟨g, 3, none⟩ = some (.int .i64 vp) ∧ w'.cell? ⟨g, 4, none⟩ = some (.slice vao vlen vcap) ∧ w'.cell? ⟨g, 5, none⟩ = some (.string vb) ∧ w'.cell? ⟨g, 6, none⟩ = some (.string vq) ∧ w'.cell? ⟨g, 7, none⟩ = some (.int .i64 vs) ∧ w'.cell? ⟨b1, o1 + k * 8, none⟩ = some (.string nm) ∧ w'.cell? ⟨b1, o1 + k * 8 + 1, none⟩ = some (.bool m) ∧ w'.cell? ⟨b1, o1 + k * 8 + 2, none⟩ = some (.string rf) ∧ w'.cell? ⟨b1, o1 + k * 8 + 3, none⟩ = some (.int .i64 p) ∧ w'.cell? ⟨b1, o1 + k * 8 + 4, none⟩ = some (.slice xo xl xc) ∧ w'.cell? ⟨b1, o1 + k * 8 + 5, none⟩ = some (.string b) ∧ w'.cell? ⟨b1, o1 + k * 8 + 6, none⟩ = some (.string q) ∧ w'.cell? ⟨b1, o1 + k * 8 + 7, none⟩ = some (.int .i64 sc))) := by
          intro W hW
          have hWw : Below w.heap.size w W := HJ.out.1.trans (hW.out.mono HJ.out.1.size)
          have h1 := sameR_calls ⟨vnm, vm, vrf, vp, vao, vlen, vcap, vb, vq, vs⟩ ⟨nm, m, rf, p, xo, xl, xc, b, q, sc⟩ (RV.R ⟨nm, m, rf, p, xo, xl, xc, b, q, sc⟩ l).runs l W (sm_ok HSm.out HVR.out (owned_below HOw.out hW.out)).1 (HOk.out _ hWw)
          rw [sameB_of HVR.out] at h1
          refine h1.mono ?_
          rintro e w' ⟨rfl, hb⟩
          have h2 : Below w.heap.size w w' := hWw.trans (hb.mono hWw.size)
          have hg := keepB (keepB HJ.out.2 hW.out) hb
          obtain ⟨x0, x1, x2, x3, x4, x5, x6, x7⟩ := HC.out _ h2
          exact ⟨rfl, h2, cellB hg rfl, cellB hg rfl, cellB hg rfl, cellB hg rfl, cellB hg rfl, cellB hg rfl, cellB hg rfl, cellB hg rfl, x0, x1, x2, x3, x4, x5, x6, x7⟩
        have HJ0 : Hid (Below wx.drew.heap.size wx.drew wx.drew) := Below.refl _ _
        have HS0 : Hid (wx.drew.cell? ⟨g, 0, none⟩ = some (.string vnm) ∧ wx.drew.cell? ⟨g, 1, none⟩ = some (.bool vm) ∧ wx.drew.cell? ⟨g, 2, none⟩ = some (.string vrf) ∧ wx.drew.cell? ⟨g, 3, none⟩ = some (.int .i64 vp) ∧ wx.drew.cell? ⟨g, 4, none⟩ = some (.slice vao vlen vcap) ∧ wx.drew.cell? ⟨g, 5, none⟩ = some (.string vb) ∧ wx.drew.cell? ⟨g, 6, none⟩ = some (.string vq) ∧ wx.drew.cell? ⟨g, 7, none⟩ = some (.int .i64 vs) ∧ wx.drew.cell? ⟨b1, o1 + k * 8, none⟩ = some (.string nm) ∧ wx.drew.cell? ⟨b1, o1 + k * 8 + 1, none⟩ = some (.bool m) ∧ wx.drew.cell? ⟨b1, o1 + k * 8 + 2, none⟩ = some (.string rf) ∧ wx.drew.cell? ⟨b1, o1 + k * 8 + 3, none⟩ = some (.int .i64 p) ∧ wx.drew.cell? ⟨b1, o1 + k * 8 + 4, none⟩ = some (.slice xo xl xc) ∧ wx.drew.cell? ⟨b1, o1 + k * 8 + 5, none⟩ = some (.string b) ∧ wx.drew.cell? ⟨b1, o1 + k * 8 + 6, none⟩ = some (.string q) ∧ wx.drew.cell? ⟨b1, o1 + k * 8 + 7, none⟩ = some (.int .i64 sc)) := by
          obtain ⟨x0, x1, x2, x3, x4, x5, x6, x7⟩ := HC.out _ HJ.out.1
          have hg := HJ.out.2
          exact ⟨cellB hg rfl, cellB hg rfl, cellB hg rfl, cellB hg rfl, cellB hg rfl, cellB hg rfl, cellB hg rfl, cellB hg rfl, x0, x1, x2, x3, x4, x5, x6, x7⟩
        clear HOw HVR HSm HC HOk
        go_region_held3 (fun W => W.cell? ⟨g, 0, none⟩ = some (.string vnm) ∧ W.cell? ⟨g, 1, none⟩ = some (.bool vm) ∧ W.cell? ⟨g, 2, none⟩ = some (.string vrf) ∧ W.cell? ⟨g, 3, none⟩ = some (.int .i64 vp) ∧ W.cell? ⟨g, 4, none⟩ = some (.slice vao vlen vcap) ∧ W.cell? ⟨g, 5, none⟩ = some (.string vb) ∧ W.cell? ⟨g, 6, none⟩ = some (.string vq) ∧ W.cell? ⟨g, 7, none⟩ = some (.int .i64 vs) ∧ W.cell? ⟨b1, o1 + k * 8, none⟩ = some (.string nm) ∧ W.cell? ⟨b1, o1 + k * 8 + 1, none⟩ = some (.bool m) ∧ W.cell? ⟨b1, o1 + k * 8 + 2, none⟩ = some (.string rf) ∧ W.cell? ⟨b1, o1 + k * 8 + 3, none⟩ = some (.int .i64 p) ∧ W.cell? ⟨b1, o1 + k * 8 + 4, none⟩ = some (.slice xo xl xc) ∧ W.cell? ⟨b1, o1 + k * 8 + 5, none⟩ = some (.string b) ∧ W.cell? ⟨b1, o1 + k * 8 + 6, none⟩ = some (.string q) ∧ W.cell? ⟨b1, o1 + k * 8 + 7, none⟩ = some (.int .i64 sc)) (first | with_reducible assumption | with_reducible exact HS0.out) (first | (go_at_call 17; refine (HSame.out _ (by with_reducible assumption)).mono ?_; rintro e w7 ⟨rfl, HB7, hS7⟩))
        clear hS7 HS0 HJ0 HSame HJ
        go_wp2
        go_roundw
        case rel => exact ⟨k + 1, by omega, by go_num, HB7.out⟩
        case measure => simp [intOf]; omega
    · have hdk : decide ((k : Int) < (n : Int)) = false := by simp; omega
      have HPr : Hid (Calls Tryz.prog 19 #[.slice ao len cap, .slice bo n cap2] wr fun e w' => TextPost (printF (qs.map Sq.P) (xs.map Rl.R)) wr e w') := printFile_calls ao len cap qs bo n cap2 xs wr (HQ.out _ HB.out) (HX.out _ HB.out) (HStd.out _ HB.out)
      have HRf : Hid (∀ W, Below w.heap.size w W → Calls Tryz.prog 20 #[.slice ao len cap, .slice bo n cap2] W fun e w' => TextPost (printF (qs.map Sq.P) (xs.map Rl.R)) W e w') := fun W hW => refPrintFile_calls ao len cap qs bo n cap2 xs W (HQ.out _ hW) (HX.out _ hW)
      have HPB : Hid (∀ t, printF (qs.map Sq.P) (xs.map Rl.R) = (t, 0) → parseF t = .inl ((qs.map Sq.P).map refOf, xs.map Rl.R) ∧ t.length ≤ 1048576) := fun t h => print_back (fun r hr => by
        obtain ⟨x, hx, rfl⟩ := List.mem_map.1 hr
        exact HFine.out x hx) h
      have HPN : Hid ((printF (qs.map Sq.P) (xs.map Rl.R)).2 ≠ 0 → (printF (qs.map Sq.P) (xs.map Rl.R)).1 = []) := printF_none
      generalize printF (qs.map Sq.P) (xs.map Rl.R) = T at *
      go_wp2_with fail
      refine HPr.out.mono ?_
      rintro e w4 ⟨t, rfl, ht, hb4⟩
      have HT : Hid (t.data.toList = T.1) := ht
      have HB4 : Hid (Below w.heap.size w w4) := HB.out.trans (hb4.mono HB.out.size)
      clear ht hb4 HPr HB
      go_wp2_with fail
      refine (HRf.out _ HB4.out).mono ?_
      rintro e w5 ⟨u, rfl, _, hb5⟩
      have HB5 : Hid (Below w.heap.size w w5) := HB4.out.trans (hb5.mono HB4.out.size)
      clear hb5 HRf HB4
      obtain ⟨T1, T2⟩ := T
      simp only at HT HPN
      have e1 : (T2 != T2) = false := by simp
      by_cases hT : T2 = 0
      case neg =>
        have e2 : (T2 != 0) = true := by simp [hT]
        have e3 : (t.toList == []) = true := by rw [beq_iff_eq, ByteArray.toList_eq, HT.out]; exact HPN.out hT
        clear hT HPB HPN
        go_wp2
        go_ret
        exact ⟨rfl, HB5.out⟩
      subst hT
      obtain ⟨hpf, hpl⟩ := HPB.out T1 rfl
      rw [← HT.out] at hpf hpl
      have HPa : Hid (Calls Tryz.prog 21 #[.string t] w5 fun e w' => ParsePost (.inl ((qs.map Sq.P).map refOf, xs.map Rl.R)) w5 e w') := by
        have h := parse21_calls t w5 (by rw [← size_toList]; exact hpl) (HStd.out _ HB5.out)
        rw [hpf] at h
        exact h
      clear hpf hpl HPB HPN HT e1
      go_wp2_with fail
      refine HPa.out.mono ?_
      rintro e w6 ⟨hb6, ⟨_, hbad, _⟩ | ⟨fs, ys, vn, vi, vl, hF, rfl, hg⟩⟩
      · cases hbad
      have hF2 : (qs.map Sq.P).map refOf = fs.map Rv.P ∧ xs.map Rl.R = ys.map Rl.R := by
        have := Sum.inl.inj hF
        simp only [Prod.mk.injEq] at this
        exact this
      have hlen : fs.length = len := by
        have := congrArg List.length hF2.1
        rw [List.length_map, List.length_map, List.length_map, HQL.out] at this
        exact this.symm
      have HFe : Hid (∀ (j : Nat) (q : Sq), qs[j]? = some q → ∃ f : Rv, fs[j]? = some f ∧ f.1.data.toList = q.1.data.toList ∧ f.2 = (q.2.2.size : Int)) := by
        intro j q hj
        obtain ⟨f, hf⟩ : ∃ f, fs[j]? = some f := ⟨_, List.getElem?_eq_getElem (by rw [hlen, ← HQL.out]; exact (List.getElem?_eq_some_iff.1 hj).1)⟩
        have h1 := congrArg (fun l => l[j]?) hF2.1
        simp only [List.getElem?_map, hj, hf, Option.map_some] at h1
        have h2 := Option.some.inj h1
        simp only [refOf, Sq.P, Rv.P, Prod.mk.injEq, size_toList] at h2
        exact ⟨f, hf, h2.1.symm, h2.2.symm⟩
      obtain ⟨no, nc, hvn⟩ := owned_shape hg.names
      obtain ⟨io, ic, hvi⟩ := owned_shape hg.lens
      obtain ⟨lo, lc, hvl⟩ := owned_shape hg.recs
      obtain ⟨m, hm⟩ : ∃ m, ys.length = m := ⟨_, rfl⟩
      rw [hlen] at hvn hvi
      rw [hm] at hvl
      subst hvn hvi hvl
      have h64 : len ≤ 64 := by rw [← hlen]; exact hg.few
      have h256 : m ≤ 256 := by rw [← hm]; exact hg.many
      have HG : Hid (GotAt w5 fs ys (.slice no len nc) (.slice io len ic) (.slice lo m lc) w6) := hg
      have HL : Hid (fs.length = len) := hlen
      have HB6 : Hid (Below w.heap.size w w6) := HB5.out.trans (hb6.mono HB5.out.size)
      have HAl : Hid (Calls Tryz.prog 25 #[.slice lo m lc, .slice bo n cap2] w6 fun e w' => e = .returned (.bool true) ∧ Below w6.heap.size w6 w') := by
        have h3 := hg.recs
        rw [hm] at h3
        have h := alike_calls lo m lc ys bo n cap2 xs w6 (recs_row h3 hg.runs hg.good hm h256) (HX.out _ HB6.out)
        rw [alikeB_of hF2.2.symm] at h
        exact h
      clear hb6 hF hF2 hlen hm hg HPa
      go_wp2_with fail
      refine HAl.out.mono ?_
      rintro e w7 ⟨rfl, hb7⟩
      have HG7 : Hid (GotAt w5 fs ys (.slice no len nc) (.slice io len ic) (.slice lo m lc) w7) := HG.out.next hb7
      have HB7 : Hid (Below w.heap.size w w7) := HB6.out.trans (hb7.mono HB6.out.size)
      have en : ((len : Int) != (len : Int)) = false := by simp
      clear hb7 HAl HG HB6 HB5
      go_wp2_with fail
      go_loopw [25] (fun jv wq => ∃ j : Nat, j ≤ len ∧ jv = .int .i64 j ∧ Below w.heap.size w wq ∧ GotAt w5 fs ys (.slice no len nc) (.slice io len ic) (.slice lo m lc) wq) (fun jv _ => len - (intOf jv).toNat)
      case atStart => exact ⟨0, Nat.zero_le _, rfl, HB7.out, HG7.out⟩
      case round =>
        obtain ⟨j, hj, rfl, hbj, hgj⟩ := hrel
        have HBj : Hid (Below w.heap.size w wr) := hbj
        have HGj : Hid (GotAt w5 fs ys (.slice no len nc) (.slice io len ic) (.slice lo m lc) wr) := hgj
        clear hbj hgj HB7 HG7
        by_cases hlj : j < len
        · have hdj : decide ((j : Int) < (len : Int)) = true := by simp; omega
          have hjI : (j : Int) < (len : Int) := by omega
          obtain ⟨⟨q1, q2, q3⟩, hqj⟩ : ∃ q, qs[j]? = some q := ⟨_, List.getElem?_eq_getElem (by rw [HQL.out]; exact hlj)⟩
          obtain ⟨⟨f1, f2⟩, hfj, hf1, hf2⟩ := HFe.out j _ hqj
          simp only at hf1 hf2
          subst hf2
          obtain ⟨b2, o2, rfl, hcs⟩ := (HQ.out _ HBj.out).cells (by omega)
          obtain ⟨x0, _, x2⟩ := hcs j _ hqj
          simp only at x0 x2
          have hnm := HGj.out.names
          have hln := HGj.out.lens
          rw [HL.out] at hnm hln
          obtain ⟨gn, c1, hen, _⟩ := owned_some hnm (by omega)
          cases hen
          obtain ⟨gi, c2, hei, _⟩ := owned_some hln (by omega)
          cases hei
          have y0 := (owned_cells hnm j (.string f1) (by simp [strVals, hfj])).1
          have z0 := (owned_cells hln j (.int .i64 (q3.size : Int)) (by simp [intVals, hfj])).1
          have d1 : (f1.toList == q1.toList) = true := by rw [beq_iff_eq, ByteArray.toList_eq, ByteArray.toList_eq]; exact hf1
          have d2 : ((q3.size : Int) != (q3.size : Int)) = false := by simp
          have hq3 : q3.size ≤ maxLen := ((HQ.out _ HBj.out).fine _ (List.mem_of_getElem? hqj)).2.2
          unfold maxLen at hq3
          have HN : Hid (∀ nq, Below w.heap.size w (wr.drewN nq) ∧ GotAt w5 fs ys (.slice (some ⟨gn, 0, none⟩) len nc) (.slice (some ⟨gi, 0, none⟩) len ic) (.slice lo m lc) (wr.drewN nq)) := fun nq => by
            have hb : Below wr.heap.size wr (wr.drewN nq) := below_drewN (Below.refl _ _) nq
            exact ⟨HBj.out.trans (hb.mono HBj.out.size), HGj.out.next hb⟩
          clear hcs hqj hfj hf1 hnm hln
          go_wp2_with fail
          go_quiet (fail)
          have HN2 : Hid (Below w.heap.size w (wr.drewN nq) ∧ GotAt w5 fs ys (.slice (some ⟨gn, 0, none⟩) len nc) (.slice (some ⟨gi, 0, none⟩) len ic) (.slice lo m lc) (wr.drewN nq)) := HN.out nq
          clear HN x0 x2 y0 z0
          generalize wr.drewN nq = wz at *
          go_wp2
          go_roundw
          case rel => exact ⟨j + 1, by omega, by go_num, HN2.out.1, HN2.out.2⟩
          case measure => simp [intOf]; omega
        · have hdj : decide ((j : Int) < (len : Int)) = false := by simp; omega
          go_wp2
          go_ret
          exact ⟨rfl, HBj.out⟩

namespace samBack
open Go.ChangeShapes Go.WideShapes Go.ChangeAt Go.RowKit
open Go.ChangeMaps (open_string shut_string)

theorem laidOut : laidOutB Tryz.prog = true := by kernel_rfl
theorem reads (os : Os) {H : Type} (enc : TypeId × Value → H) : ∃ places, DataW.whole enc Tryz.prog ((World.laidAll Tryz.prog os theLaid).forCall (fun _ _ => 0) ⟨#[], #[.slice none 0 0, .slice none 0 0], []⟩).memory Tryz.f7.params.toList Rows.samBackSpec.vars false #[.slice none 0 0, .slice none 0 0].toList 8 = some ([.nil, .nil], [], places) :=
  ⟨[], by kernel_rfl⟩

set_option maxRecDepth 100000 in
theorem lifted (os : Os) (started : os.Started) (H : Type) (enc : TypeId × Value → H) (F : Stop.Interp) :
    ReturnsInHanded {} Tryz.checked os 7 .any ((OpenSpec.ofChange Rows.samBackSpec).preRow enc Tryz.prog Tryz.f7 Rows.samBackRow.domain false Rows.samBackRow.laid) (((OpenSpec.ofChange Rows.samBackSpec).at F).post enc Tryz.prog Tryz.f7 false true false false) := by
  obtain ⟨places, hx⟩ := reads os enc
  refine returnsInHanded_of_row (C := Tryz.checked) (s := (OpenSpec.ofChange Rows.samBackSpec)) own started (by kernel_rfl) Tryz.func7
    (witness_row_at (enc := enc) (C := Tryz.checked) false (World.laidAll Tryz.prog os theLaid) #[.slice none 0 0, .slice none 0 0] (World.laidAll_os _ _ _) (by kernel_rfl) (by kernel_rfl) (by kernel_rfl)
      (OpenSpec.preRow_of_cond 8 hx (by kernel_rfl) (fun k hk => by cases hk) (by kernel_rfl) (laid_met os _))) ?_
  intro W base args ds gs before hval0 hW _ hcond _ hL hSh _
  have hval : ∀ (j : Nat) t v, Tryz.f7.params[j]? = some t → args[j]? = some v → Value.okWide Tryz.prog W .any base t v := hval0
  have hW' := hW
  obtain ⟨p, q, hA0, hV, rfl, hfz, hnd⟩ := hW
  have hA : DataW.TrodAll enc Tryz.prog W 0 (fun _ => true) true Tryz.f7.params.toList args.toList ds p := hA0
  rw [Tryz.params7] at hA hval
  obtain ⟨v0, vs0, d0, ds0, p0, q0, hargs, rfl, rfl, h0, r0⟩ := trodAll_cons hA
  obtain ⟨v1, vs1, d1, ds1, p1, q1, rfl, rfl, rfl, h1, r1⟩ := trodAll_cons r0
  obtain ⟨rfl, rfl, rfl⟩ := trodAll_nil r1
  obtain rfl : args = #[v0, v1] := by cases args; simp_all
  obtain ⟨rfl, rfl⟩ := trodVars_none hV
  obtain ⟨a0, len0, cap0, rfl⟩ := okWide_slice Tryz.underlying39 (hval 0 39 v0 rfl rfl)
  have k0 := h0
  have lt0 : ∀ x ∈ p0, x.block < W.heap.size := by obtain ⟨m, hm⟩ := k0; exact DataW.trod_lt m _ _ _ hm
  obtain ⟨z0, w0⟩ : ∃ l, SqsIn W a0 len0 cap0 l := by
    obtain ⟨fuel, hf⟩ := h0
    exact open_seqs hf
  obtain ⟨a1, len1, cap1, rfl⟩ := okWide_slice Tryz.underlying26 (hval 1 26 v1 rfl rfl)
  have k1 := h1
  have lt1 : ∀ x ∈ p1, x.block < W.heap.size := by obtain ⟨m, hm⟩ := k1; exact DataW.trod_lt m _ _ _ hm
  obtain ⟨z1, w1⟩ : ∃ l, RecsIn W a1 len1 cap1 l := by
    obtain ⟨fuel, hf⟩ := h1
    exact open_recs hf
  clear hA0 hval0
  refine (back_walk a0 len0 cap0 z0 a1 len1 cap1 z1 W (std_of_laid hL hSh) w0 w1).mono fun e W' ⟨he, bel⟩ => ?_
  subst he
  exact ⟨_, rfl, _, _, _, [], _, [], hW', trodAll_mk1 (shut_bool Tryz.underlying4 _), (trodAll_cons_mk (Below.trod laidOut (by kernel_rfl) (of_decide_eq_true (by kernel_rfl)) k0 bel lt0) (trodAll_cons_mk (Below.trod laidOut (by kernel_rfl) (of_decide_eq_true (by kernel_rfl)) k1 bel lt1) trodAll_mk0)), rfl, bel.frame _, fun h => by cases h⟩
end samBack

theorem samBack_holds : Rows.SamBackSaid :=
  OpenClaim.holds_of_cond 7 Tryz.f7 rfl rfl rfl rfl rfl rfl rfl ⟨rfl, rfl, rfl, rfl, rfl⟩ rfl rfl rfl rfl rfl (by kernel_rfl) Tryz.func7 (by kernel_rfl)
    (of_decide_eq_true (by kernel_rfl)) (by unfold Func.isWrapper; first | (rw [if_pos (by decide +kernel)]; kernel_rfl) | (rw [if_neg (by decide +kernel)]; exact ⟨rfl, rfl⟩))
    (fun os started H enc _ F => by rw [OpenClaim.pre_eq_preRow]; exact samBack.lifted os started H enc F)

theorem samBackCard_holds : Rows.SamBackCardSaid :=
  Claim7.holds_tied_plain_at .later [] _ _ _ _
    samBack_holds (fun _ h => by cases h) (by kernel_rfl) (fun _ h => by cases h) samBack_row_tie rfl ⟨rfl, rfl⟩ (by kernel_rfl) rfl
    (fun f fn hf hfn => by
      obtain rfl : f = 7 := Option.some.inj ((show Tryz.prog.funcNamed Rows.samBackRow.func = some 7 by kernel_rfl).symm.trans hf) |>.symm
      obtain rfl : fn = Tryz.f7 := (Option.some.inj (Tryz.func7.symm.trans hfn)).symm
      exact ⟨by kernel_rfl, fun j t ht => by
        rw [Tryz.params7] at ht
        have hm : t ∈ [39, 26] := by simpa using Array.mem_of_getElem? ht
        have hall : ([39, 26].all fun u => !Tryz.prog.wantsStandIn u) = true := by kernel_rfl
        exact (show Tryz.prog.wantsStandIn t = false by simpa using List.all_eq_true.1 hall t hm)⟩)
    (by kernel_rfl)
end Go.Proofs.YtdhphipdpjhhbaaGreatDoor
