/-
  awake, weighs.
-/
import Derived.Test.YtnidinppglkcpaaKmR
namespace Go.Proofs.Ytnidinppglkcpaa
open Go.RowKit Go.Maps

set_option maxHeartbeats 1000000 in
theorem weighs_calls (l : List Wd) (ao : Option Addr) (n c : Nat) (w : World) (h : WdsAt w ao n l) (hb : ∀ s ∈ l, s.length ≤ maxLen) :
    Calls Try.prog 7 #[.slice ao n c] w fun e w' => ∃ v : Int, e = .returned (.int .i64 v) ∧ (v ≤ 2147483647 → n + total l ≤ 2147483647) ∧ w' = w := by
  have hm := h.short
  unfold maxLen at hm
  have HW : Hid (WdsAt w ao n l) := h
  have HB : Hid (∀ s ∈ l, s.length ≤ maxLen) := hb
  have HL : Hid (l.length = n) := h.length
  clear h hb
  go_enter Try.func7, Try.ntmps7
  go_wp2
  go_loopg [3, 4] n (fun g a i wr => ∃ j : Nat, j + g = n ∧ a = .int .i64 (n + total (l.take j) : Nat) ∧ i = .int .i64 j ∧ wr = w ∧ (j = 0 ∨ n + total (l.take j) ≤ 4294967294))
  case atStart => exact ⟨0, Nat.zero_add _, by simp [total], rfl, rfl, .inl rfl⟩
  case round =>
    obtain ⟨j, hj, rfl, rfl, rfl, hbd⟩ := hrel
    by_cases hlt : j < n
    · have hdlt : decide ((j : Int) < (n : Int)) = true := decide_eq_true (by omega)
      by_cases hle : n + total (l.take j) ≤ 2147483647
      · have hdle : decide (((n + total (l.take j) : Nat) : Int) ≤ 2147483647) = true := decide_eq_true (by omega)
        obtain ⟨b, off, rfl, hcs⟩ := HW.out.cells (by omega)
        have hc1 := hcs j hlt
        clear hcs
        have HT : Hid (total (l.take (j + 1)) = total (l.take j) + (l.getD j []).length) := total_take l j (by have := HL.out; omega)
        have HZ : Hid ((l.getD j []).length ≤ maxLen) := HB.out _ (by rw [List.getD, List.getElem?_eq_getElem (by have := HL.out; omega)]; exact List.getElem_mem _)
        generalize l.getD j [] = s at *
        have hz : (bs s).size = s.length := bs_size _
        by_cases hg : 2147483647 < s.length
        · have hdg : decide ((2147483647 : Int) < ((bs s).size : Int)) = true := decide_eq_true (by omega)
          go_wp2
          try rw [Exit.noGoto_ret]
          go_ret
          exact ⟨2147483648, rfl, fun h => absurd h (by decide), rfl⟩
        · have hdg : decide ((2147483647 : Int) < ((bs s).size : Int)) = false := decide_eq_false (by omega)
          have HQ : Hid (n + total (l.take (j + 1)) ≤ 4294967294) := by have := HT.out; show _ ≤ _; omega
          go_wp2
          go_roundg (gk - 1)
          case rel => exact ⟨j + 1, by omega, by rw [HT.out]; go_num, by go_num, rfl, .inr HQ.out⟩
          case measure => omega
      · have hdle : decide (((n + total (l.take j) : Nat) : Int) ≤ 2147483647) = false := decide_eq_false (by omega)
        go_wp2
        try rw [Exit.noGoto_ret]
        go_ret
        exact ⟨_, rfl, fun h => by omega, rfl⟩
    · have hdlt : decide ((j : Int) < (n : Int)) = false := decide_eq_false (by omega)
      have HJ : Hid (l.take j = l) := by show _ = _; exact List.take_of_length_le (by have := HL.out; omega)
      go_wp2
      try rw [Exit.noGoto_ret]
      go_ret
      exact ⟨_, rfl, fun h => by rw [HJ.out] at h; omega, rfl⟩
theorem own_two {w : World} {base : Nat} {v : Value} {l : List Pl} {p q : Pl} (hl : l = [p, q]) (h : w.ownsRow base 46 2 v l.length (plVals l)) : ∃ g cap, v = .slice (some ⟨g, 0, none⟩) 2 cap ∧ w.cell? ⟨g, 2, none⟩ = some (.int .i64 q.1) ∧ w.cell? ⟨g, 3, none⟩ = some (.int .i64 q.2) := by
  subst hl
  obtain ⟨g, cap, rfl, _⟩ := owned_some h (by simp)
  exact ⟨g, cap, rfl, (owned_cells h 2 _ rfl).1, (owned_cells h 3 _ rfl).1⟩
theorem own_two_w {w : World} {base : Nat} {v : Value} {l : List Wd} {p q : Wd} (hl : l = [p, q]) (h : w.ownsRow base 9 1 v l.length (wdVals l)) : ∃ g cap, v = .slice (some ⟨g, 0, none⟩) 2 cap ∧ w.cell? ⟨g, 0, none⟩ = some (.string (bs p)) ∧ w.cell? ⟨g, 1, none⟩ = some (.string (bs q)) := by
  subst hl
  obtain ⟨g, cap, rfl, _⟩ := owned_some h (by simp)
  exact ⟨g, cap, rfl, (owned_cells h 0 _ rfl).1, (owned_cells h 1 _ rfl).1⟩
def awR : List Wd := [[65, 66, 65, 66], [66], [66, 65]]
theorem new_ok {k : Int} {refs : List Wd} {w w' : World} {e : Ending} (h : NewPost k refs w e w') (h0 : refB k refs = 0) : ∃ x mb f, e = .returned (.tuple #[.pointer (some ⟨x, 0, none⟩), .int .i64 0]) ∧ IxAt w' w.heap.size x mb k (occ k.toNat 0 refs) f ∧ Below w.heap.size w w' := by
  rcases h.2 with ⟨h1, _⟩ | ⟨_, x, mb, f, he, hx⟩
  · exact absurd h0 h1
  · exact ⟨x, mb, f, he, hx, h.1⟩
theorem new_bad {k : Int} {refs : List Wd} {w w' : World} {e : Ending} {E : Int} (h : NewPost k refs w e w') (h0 : refB k refs = E) (hE : E ≠ 0) : e = .returned (.tuple #[.pointer none, .int .i64 E]) ∧ Below w.heap.size w w' := by
  rcases h.2 with ⟨_, he⟩ | ⟨h1, _⟩
  · exact ⟨by rw [he, h0], h.1⟩
  · exact absurd (h0.symm.trans h1) hE
set_option maxRecDepth 10000 in
set_option maxHeartbeats 2000000 in
theorem awake_calls (w : World) : Calls Try.prog 8 #[] w fun e w' => e = .returned (.bool true) ∧ Below w.heap.size w w' := by
  have h1 := new_calls 2 awR (some ⟨w.heap.size, 0, none⟩) 3 3 (w.alloc (.cells #[.string ⟨#[65, 66, 65, 66]⟩, .string ⟨#[66]⟩, .string ⟨#[66, 65]⟩] 9)) (wds_new (zs := awR) (heap_alloc_new w _) rfl (by decide)) (by decide)
  have h2 : ∀ W, Calls Try.prog 9 #[.int .i64 0, .slice none 0 0] W (NewPost 0 [] W) := fun W => new_calls 0 [] none 0 0 W (WdsAt.nil _ _) (by simp)
  have tok1 : True := trivial
  have hl4 : (occ 2 0 awR).length = 4 := by decide +kernel
  have b0 := below_new (w := w) (.cells #[.string ⟨#[65, 66, 65, 66]⟩, .string ⟨#[66]⟩, .string ⟨#[66, 65]⟩] 9)
  have HB0 := hid b0
  clear b0
  go_enter Try.func8, Try.ntmps8
  go_wp2_with (first
    | (go_at_call 9; have _t := tok1; refine h1.mono ?_; intro e w1 hp; obtain ⟨x, mb, f, rfl, hx1, hb1⟩ := new_ok hp (by decide); have HX1 := hid hx1; have HB1 := hid hb1; clear tok1 h1 hp hx1 hb1)
    | (go_at_call 9; refine (h2 _).mono ?_; intro e w2 hp; obtain ⟨rfl, hb2⟩ := new_bad (E := 210) hp (by decide) (by decide); have HX2 := hid (HX1.out.below hb2); have HB2 := hid hb2; clear hp hb2)
    | (go_at_call 18; refine (find_calls HX2.out [65, 66] (by decide) (by decide +kernel)).mono ?_; rintro e w3 ⟨v3, rfl, ho3, hb3⟩; have HX3 := hid (HX2.out.below hb3); have HB3 := hid hb3; obtain ⟨g3, c3, rfl, y2, y3⟩ := own_two (p := (0, 0)) (q := (0, 2)) (by decide +kernel) ho3; have HY := hid (And.intro y2 y3); clear hb3 ho3 y2 y3)
    | (go_at_call 17; refine (words_calls HX3.out (by decide +kernel) (by decide +kernel)).mono ?_; rintro e w4 ⟨v4, rfl, ho4, hb4⟩; have HX4 := hid (HX3.out.below hb4); have HB4 := hid hb4; obtain ⟨g4, c4, rfl, z0, z1⟩ := own_two_w (p := [65, 66]) (q := [66, 65]) (by decide +kernel) ho4; have y2 := (hb4.cell (World.block_lt_of_cell? _ _ HY.out.1)).trans HY.out.1; have y3 := (hb4.cell (World.block_lt_of_cell? _ _ HY.out.2)).trans HY.out.2; have z0' : w4.cell? ⟨g4, 0, none⟩ = some (.string ⟨#[65, 66]⟩) := z0; have z1' : w4.cell? ⟨g4, 1, none⟩ = some (.string ⟨#[66, 65]⟩) := z1; clear hb4 ho4 z0 z1)
    | (go_at_call 12; refine (size_calls HX4.out).mono ?_; rintro e w5 ⟨rfl, rfl⟩)
    | (go_at_call 13; refine (k_calls HX4.out).mono ?_; rintro e w6 ⟨rfl, rfl⟩)
    | go_in)
  go_ret
  exact ⟨rfl, below_two (below_two (below_two (below_two HB0.out HB1.out) HB2.out) HB3.out) HB4.out⟩
end Go.Proofs.Ytnidinppglkcpaa
