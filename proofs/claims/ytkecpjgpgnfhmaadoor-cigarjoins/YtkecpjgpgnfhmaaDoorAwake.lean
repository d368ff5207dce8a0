/-
  The walk of the statements' own awake.
-/
import Derived.Test.YtkecpjgpgnfhmaaDoorPrint
import Derived.Test.YtkecpjgpgnfhmaaDoorSplit
namespace Go.Proofs.YtkecpjgpgnfhmaaDoor
open Go.RowKit

def awL : List Rn := [(77, 3), (73, 1), (68, 2)]
theorem aw_of : ofA [77, 77, 77, 73, 68, 68] = (awL, 0) := by decide
theorem aw_right : rightB awL = true := by decide
theorem aw_text : textA awL = ([51, 77, 49, 73, 50, 68], 0) := by
  rw [textA, if_pos aw_right]
  simp [awL, textB, Lib.decDigits_one]
theorem aw_cols : colsA awL = ([77, 77, 77, 73, 68, 68], 0) := by decide
theorem aw_spans : spansA awL = (5, 4, 0) := by decide
theorem aw_parse : parseA [48, 51, 77] = ([], 40) := by decide

set_option maxHeartbeats 2000000 in
theorem awake_calls (w : World) (htab : TabOk w) :
    Calls Tryd.prog 8 #[] w fun e w' => e = .returned (.bool true) ∧ Below w.heap.size w w' := by
  have HTab : Hid (TabOk w) := htab
  clear htab
  have HOf : Hid (Calls Tryd.prog 9 #[.string ⟨#[77, 77, 77, 73, 68, 68]⟩] w fun e w' => RunsPost (awL, 0) w e w') := by
    have := of_calls ⟨#[77, 77, 77, 73, 68, 68]⟩ w (by decide)
    rw [show (⟨#[77, 77, 77, 73, 68, 68]⟩ : ByteArray).data.toList = [77, 77, 77, 73, 68, 68] from rfl, aw_of] at this
    exact this
  go_enter Tryd.func8, Tryd.ntmps8
  go_wp2_with fail
  refine HOf.out.mono ?_
  rintro e w1 ⟨v, rfl, hown, hb1⟩
  clear HOf
  simp only at hown
  obtain ⟨g, cap, rfl, hbg, hlc, _, hgs⟩ := owned_some hown (by decide)
  have hrns := owned_rns hown (fun r hr => by unfold fitI; simp [awL] at hr; rcases hr with rfl | rfl | rfl <;> decide)
  have hc1 := (owned_cells hown 2 (.int .u8 73) rfl).1
  have hc2 := (owned_cells hown 5 (.int .i64 2) rfl).1
  have hl3 : awL.length = 3 := rfl
  rw [hl3] at hrns hlc ⊢
  have HR : Hid (RnsAt w1 (some ⟨g, 0, none⟩) 3 awL) := hrns
  have HB1 : Hid (Below w.heap.size w w1) := hb1
  clear hrns hown hb1 hl3
  go_wp2_with fail
  refine (print_calls (some ⟨g, 0, none⟩) 3 cap awL w1 HR.out (HTab.out.below HB1.out)).mono ?_
  rintro e w2 ⟨t, rfl, htd, hb2⟩
  have hts : (t.toList == [51, 77, 49, 73, 50, 68]) = true := by rw [ByteArray.toList_eq, htd, aw_text]; rfl
  rw [aw_text]
  have HR2 : Hid (RnsAt w2 (some ⟨g, 0, none⟩) 3 awL ∧ Below w.heap.size w w2) := ⟨HR.out.below hb2, HB1.out.trans (hb2.mono HB1.out.size)⟩
  clear htd hb2 hc1 hc2
  go_wp2_with fail
  refine (spans_calls (some ⟨g, 0, none⟩) 3 cap awL w2 HR2.out.1).mono ?_
  rintro e w3 ⟨rfl, hb3⟩
  rw [aw_spans, spansV]
  have HR3 : Hid (RnsAt w3 (some ⟨g, 0, none⟩) 3 awL ∧ Below w.heap.size w w3) := ⟨HR2.out.1.below hb3, HR2.out.2.trans (hb3.mono HR2.out.2.size)⟩
  clear hb3
  go_wp2_with fail
  refine (columns_calls (some ⟨g, 0, none⟩) 3 cap awL w3 HR3.out.1).mono ?_
  rintro e w4 ⟨u, rfl, hud, hb4⟩
  have hus : (u.toList == [77, 77, 77, 73, 68, 68]) = true := by rw [ByteArray.toList_eq, hud, aw_cols]; rfl
  rw [aw_cols]
  have HB4 : Hid (Below w.heap.size w w4) := HR3.out.2.trans (hb4.mono HR3.out.2.size)
  clear hud hb4
  go_wp2_with fail
  refine (parse_calls ⟨#[48, 51, 77]⟩ w4).mono ?_
  rintro e w5 ⟨v5, rfl, _, hb5⟩
  rw [show (⟨#[48, 51, 77]⟩ : ByteArray).data.toList = [48, 51, 77] from rfl, aw_parse]
  have HB5 : Hid (Below w.heap.size w w5) := HB4.out.trans (hb5.mono HB4.out.size)
  clear hb5
  go_wp2
  go_ret
  exact ⟨rfl, HB5.out⟩
end Go.Proofs.YtkecpjgpgnfhmaaDoor
