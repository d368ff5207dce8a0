/-
  The walk of helixlaw02.awake: the chapter's first examples are answered as they are told.
-/
import Derived.Test.YtcleejdlmamdhaaSame
namespace Go.Proofs.Ytcleejdlmamdhaa
open Go.RowKit

theorem map_inj : ∀ {qs ss : List Sq}, qs.map Sq.P = ss.map Sq.P → qs = ss
  | [], [], _ => rfl
  | [], _ :: _, h => by simp at h
  | _ :: _, [], h => by simp at h
  | q :: qs, s :: ss, h => by
    simp only [List.map_cons, List.cons.injEq] at h
    rw [Sq.P_inj h.1, map_inj h.2]

theorem awakeA (w : World) : Calls Try.prog 9 #[.string ⟨#[62, 97, 32, 120, 32, 121, 10, 65, 67, 10, 103, 116, 10, 10, 62, 98, 10, 78]⟩] w fun e w' =>
    ∃ ao cap, e = .returned (.tuple #[.slice ao 2 cap, .int .i64 0, .int .i64 0]) ∧ w'.ownsRow w.heap.size 29 3 (.slice ao 2 cap) 2 (rowCells [(⟨#[97]⟩, ⟨#[120, 32, 121]⟩, ⟨#[65, 67, 103, 116]⟩), (⟨#[98]⟩, ⟨#[]⟩, ⟨#[78]⟩)]) ∧ Below w.heap.size w w' := by
  refine (parse_calls _ w).mono ?_
  rintro e w' ⟨sv, qs, rfl, ho, hq, hb⟩
  have hp : parseB (⟨#[62, 97, 32, 120, 32, 121, 10, 65, 67, 10, 103, 116, 10, 10, 62, 98, 10, 78]⟩ : ByteArray).data.toList = _ := parse_one
  rw [hp] at hq ⊢
  have hs : qs = [(⟨#[97]⟩, ⟨#[120, 32, 121]⟩, ⟨#[65, 67, 103, 116]⟩), (⟨#[98]⟩, ⟨#[]⟩, ⟨#[78]⟩)] := map_inj hq
  subst hs
  obtain ⟨ao, cap, rfl⟩ := owned_shape ho
  exact ⟨ao, cap, rfl, ho, hb⟩
theorem awakeB (w : World) : Calls Try.prog 9 #[.string ⟨#[62, 97, 10, 10, 62, 98, 10, 65]⟩] w fun e w' =>
    ∃ sv, e = .returned (.tuple #[sv, .int .i64 3, .int .i64 20]) ∧ Below w.heap.size w w' := by
  refine (parse_calls _ w).mono ?_
  rintro e w' ⟨sv, qs, rfl, ho, hq, hb⟩
  have hp : parseB (⟨#[62, 97, 10, 10, 62, 98, 10, 65]⟩ : ByteArray).data.toList = _ := parse_two
  rw [hp]
  exact ⟨sv, rfl, hb⟩
theorem awakeC (w : World) : Calls Try.prog 13 #[.int .i64 3, .slice (some ⟨w.heap.size, 0, none⟩) 1 1] (w.alloc (.cells #[.string ⟨#[97]⟩, .string ⟨#[120]⟩, .string ⟨#[65, 67, 71, 84, 65]⟩] 29)) fun e w' =>
    e = .returned (.tuple #[.string ⟨#[62, 97, 32, 120, 10, 65, 67, 71, 10, 84, 65, 10]⟩, .int .i64 0]) ∧ Below w.heap.size w w' := by
  refine (print_calls 3 _ 1 1 [(⟨#[97]⟩, ⟨#[120]⟩, ⟨#[65, 67, 71, 84, 65]⟩)] _ ⟨rfl, by decide, fun _ => ⟨w.heap.size, 0, rfl, ?_⟩⟩ (Nat.le_refl _) ?_ (by decide) (by decide)).mono ?_
  · intro i q hi
    match i, hi with
    | 0, hi =>
      simp at hi; subst hi
      have hg := heap_alloc_new w (.cells #[.string ⟨#[97]⟩, .string ⟨#[120]⟩, .string ⟨#[65, 67, 71, 84, 65]⟩] 29)
      exact ⟨by rw [Lib.cell_of_heap hg]; rfl, by rw [Lib.cell_of_heap hg]; rfl, by rw [Lib.cell_of_heap hg]; rfl⟩
  · intro q hq
    simp at hq; subst hq
    exact ⟨by decide, by decide, by decide⟩
  · rintro e w' ⟨t, rfl, ht, hb⟩
    have hp : printB 3 ([((⟨#[97]⟩, ⟨#[120]⟩, ⟨#[65, 67, 71, 84, 65]⟩) : Sq)].map Sq.P) = _ := print_one
    rw [hp] at ht ⊢
    have hs : t = ⟨#[62, 97, 32, 120, 10, 65, 67, 71, 10, 84, 65, 10]⟩ := byte_ext ht
    subst hs
    exact ⟨rfl, ((Below.refl _ _).alloc (Nat.le_refl _) _).trans (hb.mono (by simp))⟩

set_option maxRecDepth 100000 in
set_option maxHeartbeats 4000000 in
theorem awake_calls (w : World) : Calls Try.prog 8 #[] w fun e w' => e = .returned (.bool true) ∧ Below w.heap.size w w' := by
  go_enter Try.func8, Try.ntmps8
  go_wp2_with fail
  refine (awakeA w).mono ?_
  rintro e w1 ⟨ao, cap, rfl, ho1, hb1⟩
  have HO1 : Hid (w1.ownsRow w.heap.size 29 3 (.slice ao 2 cap) 2 (rowCells [(⟨#[97]⟩, ⟨#[120, 32, 121]⟩, ⟨#[65, 67, 103, 116]⟩), (⟨#[98]⟩, ⟨#[]⟩, ⟨#[78]⟩)])) := ho1
  have HB1 : Hid (Below w.heap.size w w1) := hb1
  clear ho1 hb1
  go_wp2_with fail
  refine (awakeB w1).mono ?_
  rintro e w2 ⟨sv, rfl, hb2⟩
  have HO2 : Hid (w2.ownsRow w.heap.size 29 3 (.slice ao 2 cap) 2 (rowCells [(⟨#[97]⟩, ⟨#[120, 32, 121]⟩, ⟨#[65, 67, 103, 116]⟩), (⟨#[98]⟩, ⟨#[]⟩, ⟨#[78]⟩)])) := owned_below HO1.out hb2
  have HB2 : Hid (Below w.heap.size w w2) := HB1.out.trans (hb2.mono HB1.out.size)
  clear HO1 HB1 hb2
  go_wp2_with fail
  refine (awakeC w2).mono ?_
  rintro e w3 ⟨rfl, hb3⟩
  have hO3 := owned_below HO2.out hb3
  have HB3 : Hid (Below w.heap.size w w3) := HB2.out.trans (hb3.mono HB2.out.size)
  obtain ⟨g, rfl⟩ : ∃ g, ao = some ⟨g, 0, none⟩ := by
    rcases hO3.2 with ⟨hv, hz⟩ | ⟨g, cap', cur, hv, _⟩
    · cases hz
    · cases hv; exact ⟨g, rfl⟩
  have hc1 := (owned_cells hO3 1 (.string ⟨#[120, 32, 121]⟩) rfl).1
  have hc2 := (owned_cells hO3 2 (.string ⟨#[65, 67, 103, 116]⟩) rfl).1
  have hc3 := (owned_cells hO3 3 (.string ⟨#[98]⟩) rfl).1
  clear HO2 HB2 hb3 hO3
  go_wp2
  go_ret
  exact ⟨rfl, HB3.out⟩
end Go.Proofs.Ytcleejdlmamdhaa
