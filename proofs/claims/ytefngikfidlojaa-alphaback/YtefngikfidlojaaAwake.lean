/-
  The walk of helixlaw01.awake: the chapter's first examples are answered as they are told.
-/
import Derived.Test.YtefngikfidlojaaAdd
namespace Go.Proofs.Ytefngikfidlojaa
open Go.RowKit

theorem intsAt_of_owned {w : World} {base : Nat} {v : Value} {zs : List Int} (h : w.ownsRow base 3 1 v zs.length (zs.map (Value.int .i64))) : ∃ ao cap, v = .slice ao zs.length cap ∧ IntsAt w ao zs.length zs := by
  rcases h.2 with ⟨rfl, h0⟩ | ⟨g, cap, cur, rfl, hb, hg, hnc, hcm, hcs, htake⟩
  · exact ⟨none, 0, by rw [h0], rfl, by rw [h0]; exact Nat.zero_le _, fun h => by omega⟩
  · refine ⟨some ⟨g, 0, none⟩, cap, rfl, rfl, Nat.le_trans hnc hcm, fun _ => ⟨g, 0, rfl, fun i hi => ?_⟩⟩
    rw [Nat.zero_add, h.cellAt i (by omega)]
    simp [List.getD, List.getElem?_eq_getElem hi]

theorem built_ints (w : World) (zs : List Int) (h : zs.length ≤ maxLen) : IntsAt (w.alloc (.cells (zs.map (Value.int .i64)).toArray 3)) (some ⟨w.heap.size, 0, none⟩) zs.length zs := by
  refine ⟨rfl, h, fun _ => ⟨w.heap.size, 0, rfl, fun i hi => ?_⟩⟩
  rw [Nat.zero_add, World.cell?_alloc_mark]
  simp [List.getD, List.getElem?_eq_getElem hi]
theorem built_strs (w : World) (ss : List ByteArray) (h : ss.length ≤ maxLen) (he : ∀ s ∈ ss, s.size ≤ 140737488351232) : StrsAt (w.alloc (.cells (ss.map Value.string).toArray 9)) (some ⟨w.heap.size, 0, none⟩) ss.length ss := by
  refine ⟨rfl, h, he, fun _ => ⟨w.heap.size, 0, rfl, fun i hi => ?_⟩⟩
  rw [Nat.zero_add, World.cell?_alloc_mark]
  simp [List.getD, List.getElem?_eq_getElem hi]

def tACGT : ByteArray := ⟨#[65, 67, 71, 84]⟩
theorem right_ACGT : rightB tACGT.data.toList = true := by decide
theorem right_AA : rightB (⟨#[65, 65]⟩ : ByteArray).data.toList = false := by decide
theorem add_acGT : addB (groupsOf [⟨#[97, 99]⟩, ⟨#[71, 84]⟩]) = ([65, 67, 71, 84], 0) := by decide
theorem enc_gAt : encB [65, 67, 71, 84] [103, 65, 116] = ([2, 0, 3], 0, 0) := by decide
theorem dec_203 : decB [65, 67, 71, 84] [2, 0, 3] = ([71, 65, 84], 0) := by decide
theorem code_g : codeB [65, 67, 71, 84] 103 = 2 := by decide

theorem rightA_calls (w : World) : Calls Try.prog 10 #[.string ⟨#[65, 67, 71, 84]⟩] w fun e w' => e = .returned (.bool true) ∧ Below w.heap.size w w' :=
  (right_calls ⟨#[65, 67, 71, 84]⟩ w (by decide)).mono fun e w' ⟨he, hd⟩ => ⟨he.trans (ret_bool (by decide)), below_drewN' (Below.refl _ _) hd⟩
theorem rightB_calls (w : World) : Calls Try.prog 10 #[.string ⟨#[65, 65]⟩] w fun e w' => e = .returned (.bool false) ∧ Below w.heap.size w w' :=
  (right_calls ⟨#[65, 65]⟩ w (by decide)).mono fun e w' ⟨he, hd⟩ => ⟨he.trans (ret_bool (by decide)), below_drewN' (Below.refl _ _) hd⟩
theorem addA_calls (w : World) : Calls Try.prog 14 #[.slice (some ⟨w.heap.size, 0, none⟩) 2 2] (w.alloc (.cells #[.string ⟨#[97, 99]⟩, .string ⟨#[71, 84]⟩] 9)) fun e w' => e = .returned (.tuple #[.string ⟨#[65, 67, 71, 84]⟩, .int .i64 0]) ∧ Below w.heap.size w w' := by
  refine (add_calls _ 2 2 [⟨#[97, 99]⟩, ⟨#[71, 84]⟩] _ (built_strs w [⟨#[97, 99]⟩, ⟨#[71, 84]⟩] (by decide) (by decide))).mono ?_
  rintro e w' ⟨he, hb⟩
  rw [add_acGT] at he
  exact ⟨he, ((Below.refl _ _).alloc (Nat.le_refl _) _).trans (hb.mono (by simp))⟩
theorem encA_calls (w : World) : Calls Try.prog 16 #[.string ⟨#[65, 67, 71, 84]⟩, .string ⟨#[103, 65, 116]⟩] w fun e w' => ∃ g cap, e = .returned (.tuple #[.slice (some ⟨g, 0, none⟩) 3 cap, .int .i64 0, .int .i64 0]) ∧ w'.cell? ⟨g, 0, none⟩ = some (.int .i64 2) ∧ g < w'.heap.size ∧ Below w.heap.size w w' := by
  refine (encode_calls ⟨#[65, 67, 71, 84]⟩ ⟨#[103, 65, 116]⟩ w (by decide) (by decide)).mono ?_
  rintro e w' ⟨v, he, ho, hb⟩
  have e1 : encB (⟨#[65, 67, 71, 84]⟩ : ByteArray).data.toList (⟨#[103, 65, 116]⟩ : ByteArray).data.toList = ([2, 0, 3], 0, 0) := enc_gAt
  rw [e1] at he ho
  rcases ho.2 with ⟨_, h0⟩ | ⟨g, cap, cur, rfl, hbg, hg, _⟩
  · cases h0
  · refine ⟨g, cap, he, ?_, (ho.lt g rfl).2, hb⟩
    rw [World.ownsRow.cellAt ho 0 (by decide)]
    rfl
theorem decA_calls (w : World) : Calls Try.prog 19 #[.string ⟨#[65, 67, 71, 84]⟩, .slice (some ⟨w.heap.size, 0, none⟩) 3 3] (w.alloc (.cells #[.int .i64 2, .int .i64 0, .int .i64 3] 3)) fun e w' => e = .returned (.tuple #[.string ⟨#[71, 65, 84]⟩, .int .i64 0]) ∧ Below w.heap.size w w' := by
  refine (decode_calls ⟨#[65, 67, 71, 84]⟩ _ 3 3 [2, 0, 3] _ (by decide) (built_ints w [2, 0, 3] (by decide))).mono ?_
  rintro e w' ⟨he, hb⟩
  have e1 : decB (⟨#[65, 67, 71, 84]⟩ : ByteArray).data.toList [2, 0, 3] = ([71, 65, 84], 0) := dec_203
  rw [e1] at he
  exact ⟨he, ((Below.refl _ _).alloc (Nat.le_refl _) _).trans (hb.mono (by simp))⟩
theorem codeA_calls (w : World) : Calls Try.prog 12 #[.string ⟨#[65, 67, 71, 84]⟩, .int .u8 103] w fun e w' => e = .returned (.int .i64 2) ∧ Below w.heap.size w w' :=
  (code_calls ⟨#[65, 67, 71, 84]⟩ 103 w (by decide) (by decide) (by decide)).mono fun e w' ⟨he, hd⟩ => ⟨he.trans (ret_int (by decide)), below_drewN' (Below.refl _ _) hd⟩

set_option maxHeartbeats 1000000 in
theorem awake_calls (w : World) : Calls Try.prog 9 #[] w fun e w' => e = .returned (.bool true) ∧ Below w.heap.size w w' := by
  go_enter Try.func9, Try.ntmps9
  go_wp2_with fail
  refine (rightA_calls _).mono ?_
  rintro e w1 ⟨rfl, hb1⟩
  have HB1 : Hid (Below w.heap.size w w1) := hb1
  clear hb1
  go_wp2_with fail
  refine (rightB_calls _).mono ?_
  rintro e w2 ⟨rfl, hb2⟩
  have HB2 : Hid (Below w.heap.size w w2) := HB1.out.trans (hb2.mono HB1.out.size)
  clear hb2 HB1
  go_wp2_with fail
  refine (addA_calls _).mono ?_
  rintro e w3 ⟨rfl, hb3⟩
  have HB3 : Hid (Below w.heap.size w w3) := HB2.out.trans (hb3.mono HB2.out.size)
  clear hb3 HB2
  go_wp2_with fail
  refine (encA_calls _).mono ?_
  rintro e w4 ⟨g, cap, rfl, hc4, hg4, hb4⟩
  have HB4 : Hid (Below w.heap.size w w4) := HB3.out.trans (hb4.mono HB3.out.size)
  have HC4 : Hid (w4.cell? ⟨g, 0, none⟩ = some (.int .i64 2)) := hc4
  clear hb4 HB3 hc4
  go_wp2_with fail
  refine (decA_calls _).mono ?_
  rintro e w5 ⟨rfl, hb5⟩
  have HB5 : Hid (Below w.heap.size w w5) := HB4.out.trans (hb5.mono HB4.out.size)
  have HC5 : Hid (w5.cell? ⟨g, 0, none⟩ = some (.int .i64 2)) := (hb5.cell (p := ⟨g, 0, none⟩) hg4).trans HC4.out
  have hg5 : g < w5.heap.size := Nat.lt_of_lt_of_le hg4 hb5.size
  clear hb5 HB4 HC4 hg4
  go_wp2_with fail
  refine (codeA_calls _).mono ?_
  rintro e w6 ⟨rfl, hb6⟩
  have HB6 : Hid (Below w.heap.size w w6) := HB5.out.trans (hb6.mono HB5.out.size)
  have hc6 : w6.cell? ⟨g, 0, none⟩ = some (.int .i64 2) := (hb6.cell (p := ⟨g, 0, none⟩) hg5).trans HC5.out
  clear hb6 HB5 HC5 hg5
  go_wp2
  go_ret
  exact ⟨rfl, HB6.out⟩
end Go.Proofs.Ytefngikfidlojaa
