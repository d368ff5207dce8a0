/-
  KmerFinds: of any references every call, and every word that is asked for.
-/
import Derived.Test.YtnidinppglkcpaaRows
import Derived.Test.YtnidinppglkcpaaChecked
import Derived.Test.YtnidinppglkcpaaKfD
import Derived.ProofKit
import Derived.ShutString
import Derived.ChangeOld
import Derived.OpenShut
import Derived.Deep.DeepHandedRow
import Derived.Laws.OwnMore
namespace Go.Proofs.Ytnidinppglkcpaa
open Go.RowKit Go.Maps

def markV : Value := .string ⟨#[109, 97, 114, 107]⟩
theorem row_mark (l : List Wd) (n : Nat) (h : l.length = n) : ((wdVals l ++ (madeCells (Value.string ⟨#[]⟩).cells ((n + 2) * 1)).toList.drop n).set n markV) = wdVals l ++ [markV, .string ⟨#[]⟩] := by
  have e1 : (madeCells (Value.string ⟨#[]⟩).cells ((n + 2) * 1)).toList = List.replicate (n + 2) (.string ⟨#[]⟩) := by
    rw [Nat.mul_one]; exact toList_madeCells_one _ _
  rw [e1, List.drop_replicate, Nat.add_sub_cancel_left]
  have hl : (wdVals l).length = n := by rw [wdVals_length, h]
  rw [List.set_append_right _ _ (by omega), hl, Nat.sub_self]
  rfl
theorem row_at {l : List Wd} {n : Nat} (h : l.length = n) : (wdVals l ++ [markV, .string ⟨#[]⟩])[n]? = some markV ∧ (wdVals l ++ [markV, .string ⟨#[]⟩])[n + 1]? = some (.string ⟨#[]⟩) := by
  have hl : (wdVals l).length = n := by rw [wdVals_length, h]
  refine ⟨?_, ?_⟩
  · rw [List.getElem?_append_right (by omega), hl, Nat.sub_self]; rfl
  · rw [List.getElem?_append_right (by omega), hl, Nat.add_sub_cancel_left]; rfl
set_option maxRecDepth 20000 in
set_option maxHeartbeats 8000000 in
theorem finds_walk (k : Int) (ao : Option Addr) (n c : Nat) (refs : List Wd) (bo : Option Addr) (bn bc : Nat) (asked : List Wd) (w : World) (h : WdsIn w ao n c refs) (hq : WdsIn w bo bn bc asked) :
    Calls Try.prog 3 #[.int .i64 k, .slice ao n c, .slice bo bn bc] w fun e w' => e = .returned (.bool true) ∧ Below w.heap.size w w' := by
  obtain ⟨i0, hi, hz0, hz1, hz2⟩ := info_parts info9
  have HIn : Hid (Try.prog.info? 9 = some i0 ∧ i0.zero = some (.string ⟨#[]⟩) ∧ i0.size = 1 ∧ i0.bytes = 16) := ⟨hi, hz0, hz1, hz2⟩
  have hwg := weighs_calls refs ao n c w h.at' h.short
  have hwg2 := weighs_calls asked bo bn bc w hq.at' hq.short
  have HI := hid h
  have HA := hid hq
  clear h hq hi hz0 hz1 hz2
  go_enter Try.func3, Try.ntmps3
  go_wp2_with fail
  refine hwg.mono ?_
  rintro e wq ⟨v, rfl, hv, rfl⟩
  go_wp2_with fail
  refine hwg2.mono ?_
  rintro e w0 ⟨v2, rfl, hv2, rfl⟩
  by_cases hvb : 2147483647 < v
  · have dv : decide ((2147483647 : Int) < v) = true := decide_eq_true hvb
    go_wp2
    go_ret
    exact ⟨rfl, Below.refl _ _⟩
  have dv : decide ((2147483647 : Int) < v) = false := decide_eq_false hvb
  by_cases hvb2 : 2147483647 < v2
  · have dv2 : decide ((2147483647 : Int) < v2) = true := decide_eq_true hvb2
    go_wp2
    go_ret
    exact ⟨rfl, Below.refl _ _⟩
  have dv2 : decide ((2147483647 : Int) < v2) = false := decide_eq_false hvb2
  have HTt := hid (And.intro (hv (by omega)) (hv2 (by omega)))
  have HNl : Hid (refs.length = n) := HI.out.at'.length
  have hn31 : n ≤ 2147483647 := by have := HTt.out.1; omega
  have hbn31 : bn ≤ 2147483647 := by have := HTt.out.2; omega
  clear hvb hvb2 hv hv2 hwg hwg2
  obtain ⟨E, hE⟩ : ∃ E, refB k refs = E := ⟨_, rfl⟩
  have HE := hid hE
  clear hE
  go_upto_region 9 with (first
    | (go_at_call 8; refine (awake_calls _).mono ?_; rintro e w1 ⟨rfl, hb⟩; have HB1 := hid hb; clear hb)
    | (at_make; refine wpList_make_full _ rfl _ _ 22 rfl w1.heap.size 9 i0 (.string ⟨#[]⟩) 1 Try.underlying22 HIn.out.1 HIn.out.2.1 HIn.out.2.2.1 .i64 .i64 _ _ (n + 2) rfl rfl (by omega) (by omega) (by rw [HIn.out.2.2.2]; omega) (by unfold maxLen; omega) (Nat.le_refl _) ?_; intro w2 hrow2 hg2; have HG2 := hid ((Below.refl _ _).grown hg2 (Nat.le_refl _) (fun j hj => by cases hj)); have HO2 := hid hrow2; clear hrow2 hg2)
    | (refine wpList_copyW rfl (.tmp 44) (.tmp 45) rfl w1.heap.size w1.heap.size (n + 2) ao n c rfl rfl HI.out.nil' (Nat.le_refl _) (by omega) HO2.out (HI.out.at'.below (HB1.out.trans (HG2.out.mono HB1.out.size))) ?_; intro w3 hrow3 hb3 v3; have HO3 := hid hrow3; have HG3 := hid (HG2.out.trans hb3); obtain ⟨u3, hu3⟩ := get_len (l := wdVals refs ++ (madeCells (Value.string ⟨#[]⟩).cells ((n + 2) * 1)).toList.drop n) (j := n) (by have := own_len hrow3; omega); obtain ⟨hc3, hf3⟩ := owned_cells hrow3 n u3 hu3; clear hrow3 hb3 hu3)
    | go_in)
  have hown := owned_set HO3.out n markV
  rw [row_mark refs n HNl.out] at hown
  have hB4 : Below w1.heap.size w1 (w3.setCell ⟨w1.heap.size, n, none⟩ markV) := HG3.out.setCell (p := ⟨w1.heap.size, n, none⟩) (Nat.le_refl _) markV
  have hlt4 : w1.heap.size < (w3.setCell ⟨w1.heap.size, n, none⟩ markV).heap.size := by obtain ⟨cs, hcs⟩ := own_heap hown; exact lt_block hcs
  unfold markV at hown hB4 hlt4
  clear hc3 hf3 HO3 HO2 HG2 HG3
  generalize (w3.setCell ⟨w1.heap.size, n, none⟩ (.string ⟨#[109, 97, 114, 107]⟩)) = w4 at *
  have HB4 := hid (below_two HB1.out hB4)
  have HO4 : Hid (w4.ownsRow w1.heap.size 9 1 (.slice (some ⟨w1.heap.size, 0, none⟩) (n + 2) (n + 2)) (n + 2) (wdVals refs ++ [markV, .string ⟨#[]⟩])) := hown
  obtain ⟨gO, hgO⟩ : ∃ gO, w1.heap.size = gO := ⟨_, rfl⟩
  rw [hgO] at HO4 hlt4 ⊢
  have HgO : Hid (w0.heap.size ≤ gO) := by rw [← hgO]; exact HB1.out.size
  have HG4 := hid hlt4
  clear hown hB4 hlt4 hgO
  have hN := new_calls k refs (some ⟨gO, 0, none⟩) n (n + 2) w4 (own_pre HO4.out HNl.out (by unfold maxLen; omega)) HI.out.short
  have hR := fun W (hW : Below w0.heap.size w0 W) => rnew_calls2 k refs ao n c W (HI.out.at'.below hW) HI.out.short HI.out.nil'
  have hT := fun W (hW : Below w0.heap.size w0 W) (hW2 : Below w4.heap.size w4 W) => texts_calls refs refs (some ⟨gO, 0, none⟩) ao n (n + 2) n c W ((own_pre HO4.out HNl.out (by unfold maxLen; omega)).below hW2) (HI.out.at'.below hW)
  rw [decide_eq_true rfl] at hT
  by_cases z : E = 0
  · subst z
    go_wp2_with (first
      | (go_at_call 9; refine hN.mono ?_; intro e w5 hp; obtain ⟨x, mb, f, rfl, hx, hb⟩ := new_ok hp HE.out; have HX5 := hid hx; have HO5 := hid (owned_below HO4.out hb); have HB5 := hid (below_two HB4.out hb); have HB45 := hid hb; have HG5 := hid (Nat.lt_of_lt_of_le HG4.out hb.size); clear hp hx hb hN)
      | (go_at_call 10; refine (hR _ HB5.out).mono ?_; intro e w6 hp; obtain ⟨y, gy, hgy, rfl, hx, hb⟩ := rnew_ok2 hp HE.out; have HR6 := hid hx; have HX6 := hid (HX5.out.below hb); have HO6 := hid (owned_below HO5.out hb); have HB6 := hid (below_two HB5.out hb); have HB46 := hid (below_two HB45.out hb); have HGy : Hid (gy ≠ gO) := (by have := HG5.out; show gy ≠ gO; omega); clear hp hx hb hR hgy)
      | (go_at_call 11; refine (hT _ HB6.out HB46.out).mono ?_; rintro e w7 ⟨rfl, hb⟩; have HX7 := hid (HX6.out.below hb); have HR7 := hid (HR6.out.below hb); have HO7 := hid (owned_below HO6.out hb); have hc7 := (owned_cells HO7.out n _ (row_at HNl.out).1).1; have hd7 := (owned_cells HO7.out (n + 1) _ (row_at HNl.out).2).1; unfold markV at hc7; have HB7 := hid (below_two HB6.out hb); clear hb hT)
      | go_in)
    have hok := ref_ok HE.out
    obtain ⟨kn, hkn⟩ : ∃ kn : Nat, k = kn := ⟨k.toNat, by omega⟩
    subst hkn
    have HX7' : Hid (IxAt w7 w4.heap.size x mb kn (occ kn 0 refs) f) := HX7.out
    clear HX7 hok hc7 hd7
    go_loopg [16] n (fun g' i wr => ∃ (j : Nat) (xs : List Value), j + g' = n ∧ i = .int .i64 j ∧ wr.ownsRow gO 9 1 (.slice (some ⟨gO, 0, none⟩) (n + 2) (n + 2)) (n + 2) xs ∧ IxAt wr w4.heap.size x mb kn (occ kn 0 refs) f ∧ RxAt wr y gy kn refs ∧ Below w0.heap.size w0 wr)
    case atStart => exact ⟨0, _, Nat.zero_add _, rfl, HO7.out, HX7'.out, HR7.out, HB7.out⟩
    case round =>
      obtain ⟨j, xs, hj, rfl, hown, hx, hr, hb⟩ := hrel
      have HOx := hid hown
      have HXx := hid hx
      have HRx := hid hr
      have HBx := hid hb
      clear hx hr hb
      by_cases hlt : j < n
      · have hdlt : decide ((j : Int) < (n : Int)) = true := decide_eq_true (by omega)
        have hxl := own_len hown
        obtain ⟨u, hu⟩ := get_len (l := xs) (j := j) (by omega)
        obtain ⟨hcu, hfu⟩ := owned_cells hown _ _ hu
        obtain ⟨cs, hcs⟩ := own_heap hown
        have HY : Hid ((wr.setCell ⟨gO, j, none⟩ markV).ownsRow gO 9 1 (.slice (some ⟨gO, 0, none⟩) (n + 2) (n + 2)) (n + 2) (xs.set j markV) ∧ IxAt (wr.setCell ⟨gO, j, none⟩ markV) w4.heap.size x mb kn (occ kn 0 refs) f ∧ RxAt (wr.setCell ⟨gO, j, none⟩ markV) y gy kn refs ∧ Below w0.heap.size w0 (wr.setCell ⟨gO, j, none⟩ markV)) :=
          ⟨owned_set hown _ _, HXx.out.setOther hcs _ _, HRx.out.setOther hcs HGy.out _ _, HBx.out.setCell (p := ⟨gO, j, none⟩) HgO.out _⟩
        clear hown hxl hu hcs
        go_wp2
        go_roundg (gk - 1)
        case rel => exact ⟨j + 1, _, by omega, by go_num, HY.out.1, HY.out.2.1, HY.out.2.2.1, HY.out.2.2.2⟩
        case measure => omega
      · have hdlt : decide ((j : Int) < (n : Int)) = false := decide_eq_false (by omega)
        clear hown
        have HE0 : Hid (refB kn refs = 0) := HE.out
        have HLb := hid (occ_len_bd HE.out 0)
        have h16 : ∀ o ∈ occ kn 0 refs, o.1.length ≤ 16 := occ_16 HE.out
        have H16 := hid h16
        clear h16
        go_wp2_with (first
          | (go_at_call 12; refine (size_calls HXx.out).mono ?_; rintro e w8 ⟨rfl, rfl⟩)
          | (go_at_call 13; refine (k_calls HXx.out).mono ?_; rintro e w9 ⟨rfl, rfl⟩)
          | (go_at_call 14; refine (rsize_calls HRx.out HE0.out).mono ?_; rintro e w10 ⟨rfl, hb⟩; have HX10 := hid (HXx.out.below hb); have HR10 := hid (HRx.out.below hb); have HB10 := hid (below_two HBx.out hb); clear hb)
          | go_in)
        clear HXx HRx HBx HOx hdlt
        go_loopg [20] bn (fun g' i wr => ∃ j : Nat, j + g' = bn ∧ i = .int .i64 j ∧ Below w0.heap.size w0 wr ∧ Below w10.heap.size w10 wr)
        case atStart => exact ⟨0, Nat.zero_add _, rfl, HB10.out, Below.refl _ _⟩
        case round =>
          obtain ⟨q, hq, rfl, hb1, hb2⟩ := hrel
          have HBq := hid (And.intro hb1 hb2)
          clear hb1 hb2
          by_cases hlq : q < bn
          · have hdq : decide ((q : Int) < (bn : Int)) = true := decide_eq_true (by omega)
            obtain ⟨ab, ao', rfl, hca⟩ := (HA.out.at'.below HBq.out.1).cells (by omega)
            have hc1 := hca q hlq
            have hin : (asked.getD q []).length ≤ maxLen := by
              have := HA.out.at'.length
              exact HA.out.short _ (by rw [List.getD, List.getElem?_eq_getElem (by omega)]; exact List.getElem_mem _)
            have hfi := finds_calls (HX10.out.below HBq.out.2) (HR10.out.below HBq.out.2) HE0.out _ hin
            clear hca hin
            generalize asked.getD q [] = wd at *
            go_wp2_with (first
              | (go_at_call 15; refine hfi.mono ?_; rintro e w11 ⟨rfl, hb⟩; have HB11 := hid (And.intro (below_two HBq.out.1 hb) (below_two HBq.out.2 hb)); clear hb hfi)
              | go_in)
            go_roundg (gk - 1)
            case rel => exact ⟨q + 1, by omega, by go_num, HB11.out⟩
            case measure => omega
          · have hdq : decide ((q : Int) < (bn : Int)) = false := decide_eq_false (by omega)
            go_wp2_with (first
              | (go_at_call 16; refine (rwords_calls (HR10.out.below HBq.out.2) HE0.out).mono ?_; rintro e w12 ⟨v12, rfl, ho, hb⟩; obtain ⟨wa, wc, rfl, hw⟩ := wds_row ho; have HW12 := hid hw; have HX12 := hid ((HX10.out.below HBq.out.2).below hb); have HR12 := hid ((HR10.out.below HBq.out.2).below hb); have HB12 := hid (below_two HBq.out.1 hb); clear ho hw hb)
              | go_in)
            clear HBq HX10 HR10 HB10
            have hml := Nat.le_trans (wds_len (occ kn 0 refs)) HLb.out
            have HWl : Hid (∀ wd ∈ wdsOf (occ kn 0 refs), wd.length ≤ maxLen) := by
              intro wd hw
              obtain ⟨o, ho, rfl⟩ := (wds_mem _ _).1 hw
              have := H16.out o ho
              unfold maxLen; omega
            have hwc := fun W (hW : Below w12.heap.size w12 W) => words_calls (HX12.out.below hW) HLb.out H16.out
            have hfi := fun W (hW : Below w12.heap.size w12 W) wd (hwd : wd.length ≤ maxLen) => finds_calls (HX12.out.below hW) (HR12.out.below hW) HE0.out wd hwd
            generalize wdsOf (occ kn 0 refs) = ws at *
            obtain ⟨m, hm⟩ : ∃ m, ws.length = m := ⟨_, rfl⟩
            have HM := hid hm
            rw [hm] at HW12 hml ⊢
            clear hm
            go_loopg [23] 2 (fun g' i wr => ∃ t : Nat, t + g' = 2 ∧ i = .int .i64 t ∧ Below w0.heap.size w0 wr ∧ Below w12.heap.size w12 wr)
            case atStart => exact ⟨0, rfl, rfl, HB12.out, Below.refl _ _⟩
            case round =>
              obtain ⟨t, ht, rfl, hb1, hb2⟩ := hrel
              have HBr := hid (And.intro hb1 hb2)
              clear hb1 hb2
              by_cases hlt : t < 2
              · have hdlt : decide ((t : Int) < 2) = true := decide_eq_true (by omega)
                have hdltn : decide (t < 2) = true := decide_eq_true hlt
                have hcall := hwc wr HBr.out.2
                go_wp2_with (first
                  | (go_at_call 17; refine hcall.mono ?_; rintro e w13 ⟨v13, rfl, ho, hb⟩; obtain ⟨la, lc, rfl, hw⟩ := wds_row ho; rw [HM.out] at hw ho; have HO13 := hid ho; have HL13 := hid hw; have HB13 := hid (And.intro (below_two HBr.out.1 hb) (below_two HBr.out.2 hb)); have HS13 := hid hb.size; rw [HM.out]; clear ho hw hb hcall)
                  | (go_at_call 11; refine (texts_calls ws ws la wa m lc m wc w13 HL13.out (HW12.out.below HB13.out.2)).mono ?_; rw [decide_eq_true rfl]; rintro e w14 ⟨rfl, hb⟩; have HO14 := hid (owned_below HO13.out hb); have HB14 := hid (And.intro (below_two HB13.out.1 hb) (below_two HB13.out.2 hb)); have HS14 := hid (Nat.le_trans HS13.out hb.size); clear hb)
                  | go_in)
                obtain ⟨B, hB⟩ : ∃ B, wr.heap.size = B := ⟨_, rfl⟩
                have HO14' : Hid (w14.ownsRow B 9 1 (.slice la m lc) m (wdVals ws)) := by rw [← hB]; exact HO14.out
                have HBs : Hid (w0.heap.size ≤ B ∧ w12.heap.size ≤ B ∧ B ≤ w14.heap.size) := by rw [← hB]; exact ⟨HBr.out.1.size, HBr.out.2.size, HS14.out⟩
                clear hB HO14 HS14 HS13
                obtain ⟨gP, rfl⟩ : ∃ gP, gP = gk := ⟨_, rfl⟩
                go_loopg [26] m (fun g' i wr2 => ∃ (q : Nat) (xs : List Value), q + g' = m ∧ i = .int .i64 q ∧ wr2.ownsRow B 9 1 (.slice la m lc) m xs ∧ Below w0.heap.size w0 wr2 ∧ Below w12.heap.size w12 wr2 ∧ B ≤ wr2.heap.size)
                case atStart => exact ⟨0, _, Nat.zero_add _, rfl, HO14'.out, HB14.out.1, HB14.out.2, HBs.out.2.2⟩
                case round =>
                  obtain ⟨q, xs, hq, rfl, hown, hb1, hb2, hb3⟩ := hrel
                  have HOx := hid hown
                  have HBx := hid (And.intro hb1 (And.intro hb2 hb3))
                  clear hb1 hb2 hb3
                  by_cases hlq : q < m
                  · have hdq : decide ((q : Int) < (m : Int)) = true := decide_eq_true (by omega)
                    obtain ⟨gb, cap, hvs, hgb, _⟩ := owned_some hown (by omega)
                    have hva : la = some ⟨gb, 0, none⟩ := by injection hvs
                    subst hva
                    have hxl := own_len hown
                    obtain ⟨u, hu⟩ := get_len (l := xs) (j := q) (by omega)
                    obtain ⟨hcu, hfu⟩ := owned_cells hown _ _ hu
                    have HO7 : Hid ((wr.setCell ⟨gb, q, none⟩ markV).ownsRow B 9 1 (.slice (some ⟨gb, 0, none⟩) m lc) m (xs.set q markV) ∧ Below w0.heap.size w0 (wr.setCell ⟨gb, q, none⟩ markV) ∧ Below w12.heap.size w12 (wr.setCell ⟨gb, q, none⟩ markV) ∧ B ≤ (wr.setCell ⟨gb, q, none⟩ markV).heap.size) :=
                      ⟨owned_set hown _ _, HBx.out.1.setCell (p := ⟨gb, q, none⟩) (Nat.le_trans HBs.out.1 hgb) _, HBx.out.2.1.setCell (p := ⟨gb, q, none⟩) (Nat.le_trans HBs.out.2.1 hgb) _, by simpa [World.setCell] using HBx.out.2.2⟩
                    clear hown hvs hxl hu
                    go_wp2
                    go_roundg (gk - 1)
                    case rel => exact ⟨q + 1, _, by omega, by go_num, HO7.out.1, HO7.out.2.1, HO7.out.2.2.1, HO7.out.2.2.2⟩
                    case measure => omega
                  · have hdq : decide ((q : Int) < (m : Int)) = false := decide_eq_false (by omega)
                    clear hown
                    go_wp2_with (first
                      | (refine wpList_append_opt rfl (.tmp 174) (.tmp 175) 22 rfl B 9 i0 _ 1 16 Try.underlying22 HIn.out.1 HIn.out.2.1 HIn.out.2.2.1 HIn.out.2.2.2 rfl (by decide) _ _ _ rfl (owned_below HOx.out (below_new (.cells [.string ⟨#[109, 111, 114, 101]⟩].toArray 9))) (some ⟨wr.heap.size, 0, none⟩) 1 1 [.string ⟨#[109, 111, 114, 101]⟩] rfl (src_new [.string ⟨#[109, 111, 114, 101]⟩] 9 1 rfl (by simp [Value.oneCell'])) (by unfold maxLen; omega) (by omega) (by have := HBx.out.2.2; simp; omega) ?_; intro v5 w5 ho hg; have HB5 : Hid (Below w0.heap.size w0 w5 ∧ Below w12.heap.size w12 w5) := ⟨(HBx.out.1.alloc HBx.out.1.size _).grown hg (by have := HBx.out.1.size; simp; omega) (fun g hg1 => Nat.le_trans HBs.out.1 (own_lt HOx.out hg1).2), (HBx.out.2.1.alloc HBx.out.2.1.size _).grown hg (by have := HBx.out.2.1.size; simp; omega) (fun g hg1 => Nat.le_trans HBs.out.2.1 (own_lt HOx.out hg1).2)⟩; clear ho hg)
                      | go_in)
                    go_roundg (gP - 1)
                    case rel => exact ⟨t + 1, by omega, by go_num, HB5.out⟩
                    case measure => omega
              · have hdlt : decide ((t : Int) < 2) = false := decide_eq_false (by omega)
                have hdltn : decide (t < 2) = false := decide_eq_false hlt
                go_wp2
                go_loopg [27] m (fun g' i wr2 => ∃ q : Nat, q + g' = m ∧ i = .int .i64 q ∧ Below w0.heap.size w0 wr2 ∧ Below w12.heap.size w12 wr2)
                case atStart => exact ⟨0, Nat.zero_add _, rfl, HBr.out⟩
                case round =>
                  obtain ⟨q, hq, rfl, hb1, hb2⟩ := hrel
                  have HBq := hid (And.intro hb1 hb2)
                  clear hb1 hb2
                  by_cases hlq : q < m
                  · have hdq : decide ((q : Int) < (m : Int)) = true := decide_eq_true (by omega)
                    by_cases h20 : q < 20
                    · have hd20 : decide ((q : Int) < 20) = true := decide_eq_true (by omega)
                      have hd20n : decide (q < 20) = true := decide_eq_true h20
                      obtain ⟨ab, ao', rfl, hca⟩ := (HW12.out.below HBq.out.2).cells (by omega)
                      have hc1 := hca q hlq
                      have hin : (ws.getD q []).length ≤ maxLen := HWl.out _ (by rw [List.getD, List.getElem?_eq_getElem (by have := HM.out; omega)]; exact List.getElem_mem _)
                      have hcall := hfi wr HBq.out.2 _ hin
                      clear hca hin
                      generalize ws.getD q [] = wd at *
                      go_wp2_with (first
                        | (go_at_call 15; refine hcall.mono ?_; rintro e w11 ⟨rfl, hb⟩; have HB11 := hid (And.intro (below_two HBq.out.1 hb) (below_two HBq.out.2 hb)); clear hb hcall)
                        | go_in)
                      go_roundg (gk - 1)
                      case rel => exact ⟨q + 1, by omega, by go_num, HB11.out⟩
                      case measure => omega
                    · have hd20 : decide ((q : Int) < 20) = false := decide_eq_false (by omega)
                      have hd20n : decide (q < 20) = false := decide_eq_false h20
                      go_wp2
                      try rw [Exit.noGoto_ret]
                      go_ret
                      exact ⟨rfl, HBq.out.1⟩
                  · have hdq : decide ((q : Int) < (m : Int)) = false := decide_eq_false (by omega)
                    go_wp2
                    try rw [Exit.noGoto_ret]
                    go_ret
                    exact ⟨rfl, HBq.out.1⟩
  · have HF := hid z
    have n1 : (E != 0) = true := by simpa using z
    clear z
    go_wp2_with (first
      | (go_at_call 9; refine hN.mono ?_; intro e w5 hp; obtain ⟨rfl, hb⟩ := new_bad hp HE.out HF.out; have HO5 := hid (owned_below HO4.out hb); have HB5 := hid (below_two HB4.out hb); have HB45 := hid hb; clear hp hb hN)
      | (go_at_call 10; refine (hR _ HB5.out).mono ?_; intro e w6 hp; obtain ⟨rfl, hb⟩ := rnew_no2 hp HE.out HF.out; have HO6 := hid (owned_below HO5.out hb); have HB6 := hid (below_two HB5.out hb); have HB46 := hid (below_two HB45.out hb); clear hp hb hR)
      | (go_at_call 11; refine (hT _ HB6.out HB46.out).mono ?_; rintro e w7 ⟨rfl, hb⟩; have HO7 := hid (owned_below HO6.out hb); have hc7 := (owned_cells HO7.out n _ (row_at HNl.out).1).1; have hd7 := (owned_cells HO7.out (n + 1) _ (row_at HNl.out).2).1; unfold markV at hc7; have HB7 := hid (below_two HB6.out hb); clear hb hT)
      | go_in)
    go_ret
    exact ⟨rfl, HB7.out⟩
namespace kmerFinds
open Go.ChangeShapes Go.WideShapes Go.ChangeAt Go.RowKit
open Go.ChangeMaps (open_string shut_string)
theorem own : ownKnob Try.prog.godebug = none := by kernel_rfl
theorem laidOut : laidOutB Try.prog = true := by kernel_rfl
set_option maxRecDepth 100000 in
theorem lifted (os : Os) (started : os.Started) (H : Type) (enc : TypeId × Value → H) :
    ReturnsInHanded {} Try.checked os 3 .any (Rows.kmerFindsSpec.pre6 enc Try.prog Try.f3 Rows.kmerFindsRow.domain false) (Rows.kmerFindsSpec.post enc Try.prog Try.f3 false true false false) := by
  refine returnsInHanded_of_change (C := Try.checked) own started (by kernel_rfl) Try.func3
    (ChangeSpec.witness6 (enc := enc) (C := Try.checked) false ⟨#[], #[.int .i64 0, .slice none 0 0, .slice none 0 0], []⟩ 8 (by kernel_rfl) (by kernel_rfl) (by kernel_rfl) (by kernel_rfl)) ?_
  intro W base args ds gs before hval0 hW _ _
  have hval : ∀ (j : Nat) t v, Try.f3.params[j]? = some t → args[j]? = some v → Value.okWide Try.prog W .any base t v := hval0
  have hW' := hW
  obtain ⟨p, q, hA0, hV, rfl, hfz, hnd⟩ := hW
  have hA : DataW.TrodAll enc Try.prog W 0 (fun _ => true) true Try.f3.params.toList args.toList ds p := hA0
  rw [Try.params3] at hA hval
  obtain ⟨v0, vs0, d0, ds0, p0, q0, hargs, rfl, rfl, h0, r0⟩ := trodAll_cons hA
  obtain ⟨v1, vs1, d1, ds1, p1, q1, rfl, rfl, rfl, h1, r1⟩ := trodAll_cons r0
  obtain ⟨v2, vs2, d2, ds2, p2, q2, rfl, rfl, rfl, h2, r2⟩ := trodAll_cons r1
  obtain ⟨rfl, rfl, rfl⟩ := trodAll_nil r2
  obtain rfl : args = #[v0, v1, v2] := by cases args; simp_all
  obtain ⟨rfl, rfl⟩ := trodVars_none hV
  obtain ⟨a0, rfl, rfl, rfl, w0⟩ := open_int Try.underlying3 (hval 0 3 v0 rfl rfl) h0
  obtain ⟨a1, len1, cap1, rfl⟩ := okWide_slice Try.underlying22 (hval 1 22 v1 rfl rfl)
  have k1 := h1
  have lt1 : ∀ x ∈ p1, x.block < W.heap.size := by obtain ⟨m, hm⟩ := k1; exact DataW.trod_lt m _ _ _ hm
  obtain ⟨z1, w1⟩ : ∃ l, WdsIn W a1 len1 cap1 l := by
    obtain ⟨fuel, hf⟩ := h1
    obtain ⟨ao, n, c, l, hcs, hl⟩ := open_wds hf
    simp [Value.cells] at hcs
    obtain ⟨rfl, rfl, rfl⟩ := hcs
    exact ⟨l, hl⟩
  obtain ⟨a2, len2, cap2, rfl⟩ := okWide_slice Try.underlying22 (hval 2 22 v2 rfl rfl)
  have k2 := h2
  have lt2 : ∀ x ∈ p2, x.block < W.heap.size := by obtain ⟨m, hm⟩ := k2; exact DataW.trod_lt m _ _ _ hm
  obtain ⟨z2, w2⟩ : ∃ l, WdsIn W a2 len2 cap2 l := by
    obtain ⟨fuel, hf⟩ := h2
    obtain ⟨ao, n, c, l, hcs, hl⟩ := open_wds hf
    simp [Value.cells] at hcs
    obtain ⟨rfl, rfl, rfl⟩ := hcs
    exact ⟨l, hl⟩
  clear hA0 hval0
  refine (finds_walk a0 a1 len1 cap1 z1 a2 len2 cap2 z2 W w1 w2).mono fun e W' ⟨he, bel⟩ => ?_
  subst he
  exact ⟨_, rfl, _, _, _, [], _, [], hW', trodAll_mk1 (shut_bool Try.underlying4 _), (trodAll_cons_mk (shut_int Try.underlying3 w0) (trodAll_cons_mk (Below.trod laidOut (by kernel_rfl) (of_decide_eq_true (by kernel_rfl)) k1 bel lt1) (trodAll_cons_mk (Below.trod laidOut (by kernel_rfl) (of_decide_eq_true (by kernel_rfl)) k2 bel lt2) trodAll_mk0))), rfl, bel.frame _, fun h => by cases h⟩
end kmerFinds

theorem kmerFinds_holds : Rows.KmerFindsSaid :=
  OpenClaim.holds_of_wide 3 Try.f3 rfl rfl rfl rfl rfl rfl rfl ⟨rfl, rfl, rfl, rfl, rfl⟩ rfl rfl rfl rfl rfl (by kernel_rfl) Try.func3 (by kernel_rfl)
    (of_decide_eq_true (by kernel_rfl)) (by unfold Func.isWrapper; first | (rw [if_pos (by decide +kernel)]; kernel_rfl) | (rw [if_neg (by decide +kernel)]; exact ⟨rfl, rfl⟩))
    (fun os started H enc _ => kmerFinds.lifted os started H enc)

end Go.Proofs.Ytnidinppglkcpaa
