/-
  awake: the chapter's examples.
-/
import Derived.Test.YtegndeefddlccaaPwD
import Derived.BigQuiet
namespace Go.Proofs.Ytegndeefddlccaa
open Go.RowKit

def mB : Md := ⟨4, [2, -3, -3, -3, -3, 2, -3, -3, -3, -3, 2, -3, -3, -3, -3, 2], [(4, 1)], 1, false, 0, 0, 0, 0, 0⟩
theorem aw_cost : costV 4 [(1, 3), (10, 0)] = 10 ∧ costE 4 [(1, 3), (10, 0)] = 0 := by decide
theorem aw_ref : refE mB [0, 1, 2, 3] [0, 2, 3] = 0 := by decide
theorem aw_se : scE mB [0, 1, 2, 3] [0, 2, 3] ⟨0, 0, [77, 68, 77, 77]⟩ = 0 := by kernel_rfl
theorem aw_sv : scV mB [0, 1, 2, 3] [0, 2, 3] ⟨0, 0, [77, 68, 77, 77]⟩ = 1 := by kernel_rfl
theorem aw_sh1 : shE mB [0] [0] = 0 := by decide
theorem aw_all : pathsB mB 1 1 = [⟨0, 0, [77]⟩, ⟨0, 0, [73, 68]⟩, ⟨0, 0, [68, 73]⟩] := by rfl
theorem aw_be : bsE mB [0, 1, 2, 3] [0, 2, 3] = 0 := by kernel_rfl
theorem aw_bv : bsV mB [0, 1, 2, 3] [0, 2, 3] = (1, ⟨0, 0, [77, 68, 77, 77]⟩) := by kernel_rfl

theorem gps_new {w : World} {g : Nat} {l : List (Int × Int)} {cs : Array Value} {t : TypeId} {f : Nat × Nat} (h : w.heap[g]? = some (.cells cs t f)) (hc : ∀ (i : Nat) (x : Int × Int), l[i]? = some x → cs[i * 2]? = some (.int .i64 x.1) ∧ cs[i * 2 + 1]? = some (.int .i64 x.2)) (hs : l.length ≤ maxLen) : GpsAt w (some ⟨g, 0, none⟩) l.length l := by
  refine ⟨rfl, hs, fun _ => ⟨g, 0, rfl, fun i x hi => ?_⟩⟩
  rw [Nat.zero_add]
  exact ⟨cell_block h _ _ (hc i x hi).1, cell_block h _ _ (hc i x hi).2⟩
/-- The example's model in memory, and in its box. -/
structure AwS (w wr : World) : Prop where
  low : Below w.heap.size w wr
  at' : MdAt wr mB (some ⟨w.heap.size, 0, none⟩) 16 (some ⟨w.heap.size + 1, 0, none⟩) 1
  box : wr.heap[w.heap.size + 1 + 1]? = some (.cells #[.int .i64 4, .slice (some ⟨w.heap.size, 0, none⟩) 16 16, .slice (some ⟨w.heap.size + 1, 0, none⟩) 1 1, .int .i64 1, .bool false, .int .i64 0, .int .i64 0, .int .i64 0, .int .i64 0, .int .i64 0] 31 (0, 0))
theorem AwS.next {w wr w2 : World} (h : AwS w wr) (hb : Below wr.heap.size wr w2) : AwS w w2 :=
  ⟨h.low.trans (hb.mono h.low.size), h.at'.below hb, (Fr.of_below (O := fun _ => False) hb).heap h.box (fun h => h)⟩
theorem AwS.start (w : World) : AwS w (((w.alloc (.cells #[.int .i64 2, .int .i64 (-3), .int .i64 (-3), .int .i64 (-3), .int .i64 (-3), .int .i64 2, .int .i64 (-3), .int .i64 (-3), .int .i64 (-3), .int .i64 (-3), .int .i64 2, .int .i64 (-3), .int .i64 (-3), .int .i64 (-3), .int .i64 (-3), .int .i64 2] 3)).alloc (.cells #[.int .i64 4, .int .i64 1] 50)).alloc (.cells #[.int .i64 4, .slice (some ⟨w.heap.size, 0, none⟩) 16 16, .slice (some ⟨w.heap.size + 1, 0, none⟩) 1 1, .int .i64 1, .bool false, .int .i64 0, .int .i64 0, .int .i64 0, .int .i64 0, .int .i64 0] 31)) := by
  refine ⟨below_al (below_al (bl1 _ _) _) _, ⟨?_, ?_⟩, hp_at (by simp)⟩
  · exact ints_new (zs := mB.subst) (hp_old (hp_old (hp_at rfl))) rfl (by unfold maxLen; decide)
  · exact gps_new (l := [(4, 1)]) (hp_old (hp_at (by simp))) (by
      intro i x hi
      match i, hi with
      | 0, hi => cases hi; exact ⟨rfl, rfl⟩) (by unfold maxLen; decide)
theorem ints_of (W : World) (zs : List Int) (cs : Array Value) (hc : cs = (zs.map (Value.int .i64)).toArray) (hs : zs.length ≤ 100) {k : Nat} (hk : k = W.heap.size) : IntsAt (W.alloc (.cells cs 3)) (some ⟨k, 0, none⟩) zs.length zs :=
  ints_new (hp_at hk) hc (by unfold maxLen; omega)
theorem row_cell {w : World} {base : Nat} {v : Value} {n : Nat} {xs : List Value} (h : w.ownsRow base 33 3 v n xs) {g cap : Nat} (hv : v = .slice (some ⟨g, 0, none⟩) n cap) (j : Nat) (u : Value) (hu : xs[j]? = some u) : w.cell? ⟨g, j, none⟩ = some u := by
  subst hv
  have := h.cells (g := g) rfl j u hu
  by_cases hj : j = 0
  · subst hj
    simpa [Addr.add] using this
  · simpa [Addr.add, hj] using this
set_option maxRecDepth 100000 in
set_option maxHeartbeats 4000000 in
theorem awake_calls (w : World) : Calls Try.prog 9 #[] w fun e w' => e = .returned (.bool true) ∧ Below w.heap.size w w' := by
  have HA0 : Hid (AwS w (((w.alloc (.cells #[.int .i64 2, .int .i64 (-3), .int .i64 (-3), .int .i64 (-3), .int .i64 (-3), .int .i64 2, .int .i64 (-3), .int .i64 (-3), .int .i64 (-3), .int .i64 (-3), .int .i64 2, .int .i64 (-3), .int .i64 (-3), .int .i64 (-3), .int .i64 (-3), .int .i64 2] 3)).alloc (.cells #[.int .i64 4, .int .i64 1] 50)).alloc (.cells #[.int .i64 4, .slice (some ⟨w.heap.size, 0, none⟩) 16 16, .slice (some ⟨w.heap.size + 1, 0, none⟩) 1 1, .int .i64 1, .bool false, .int .i64 0, .int .i64 0, .int .i64 0, .int .i64 0, .int .i64 0] 31))) := AwS.start w
  go_enter Try.func9, Try.ntmps9
  go_wp2_with fail
  refine (cost_calls 4 _ 2 2 [(1, 3), (10, 0)] _ (gps_new (l := [(1, 3), (10, 0)]) (hp_at (by simp)) (by
    intro i x hi
    match i, hi with
    | 0, hi => cases hi; exact ⟨rfl, rfl⟩
    | 1, hi => cases hi; exact ⟨rfl, rfl⟩) (by unfold maxLen; decide))).mono ?_
  rintro e w1 ⟨rfl, hb1⟩
  rw [aw_cost.1, aw_cost.2]
  have HA1 : Hid (AwS w w1) := (HA0.out.next (bl1 _ _)).next hb1
  clear HA0 hb1
  have b0 := cell_block HA1.out.box 0 (.int .i64 4) rfl
  have b1 := cell_block HA1.out.box 1 (.slice (some ⟨w.heap.size, 0, none⟩) 16 16) rfl
  have b2 := cell_block HA1.out.box 2 (.slice (some ⟨w.heap.size + 1, 0, none⟩) 1 1) rfl
  have b3 := cell_block HA1.out.box 3 (.int .i64 1) rfl
  have b4 := cell_block HA1.out.box 4 (.bool false) rfl
  have b5 := cell_block HA1.out.box 5 (.int .i64 0) rfl
  have b6 := cell_block HA1.out.box 6 (.int .i64 0) rfl
  have b7 := cell_block HA1.out.box 7 (.int .i64 0) rfl
  have b8 := cell_block HA1.out.box 8 (.int .i64 0) rfl
  have b9 := cell_block HA1.out.box 9 (.int .i64 0) rfl
  have hl1 : w.heap.size + 1 + 1 < w1.heap.size := (Array.getElem?_eq_some_iff.1 HA1.out.box).1
  go_wp2_with fail
  refine ((score_calls mB (some ⟨w.heap.size, 0, none⟩) 16 16 (some ⟨w.heap.size + 1, 0, none⟩) 1 1 (some ⟨w1.heap.size, 0, none⟩) 4 4 (some ⟨w1.heap.size + 1, 0, none⟩) 3 3 [0, 1, 2, 3] [0, 2, 3] 0 0 { data := #[77, 68, 77, 77] } _ (HA1.out.at'.below (below_al (bl1 w1 _) _)) ((ints_of w1 [0, 1, 2, 3] #[.int .i64 0, .int .i64 1, .int .i64 2, .int .i64 3] rfl (by decide) rfl).below (bl1 _ _)) (ints_of _ [0, 2, 3] #[.int .i64 0, .int .i64 2, .int .i64 3] rfl (by decide) (by simp)) (by unfold maxLen; decide)).mono (R' := fun e w' => e = .returned (.tuple #[.int .i64 1, .int .i64 0]) ∧ Below ((w1.alloc (.cells #[.int .i64 0, .int .i64 1, .int .i64 2, .int .i64 3] 3)).alloc (.cells #[.int .i64 0, .int .i64 2, .int .i64 3] 3)).heap.size ((w1.alloc (.cells #[.int .i64 0, .int .i64 1, .int .i64 2, .int .i64 3] 3)).alloc (.cells #[.int .i64 0, .int .i64 2, .int .i64 3] 3)) w') (fun e w' h => ⟨by
      have h1 : e = .returned (.tuple #[.int .i64 (scV mB [0, 1, 2, 3] [0, 2, 3] ⟨0, 0, [77, 68, 77, 77]⟩), .int .i64 (scE mB [0, 1, 2, 3] [0, 2, 3] ⟨0, 0, [77, 68, 77, 77]⟩)]) := h.1
      rw [aw_sv, aw_se] at h1
      exact h1, h.2⟩)).mono ?_
  rintro e w2 ⟨rfl, hb2⟩
  have HA2 : Hid (AwS w w2) := ((HA1.out.next (bl1 _ _)).next (bl1 _ _)).next hb2
  clear HA1 hb2 b0 b1 b2 b3 b4 b5 b6 b7 b8 b9
  have b0 := cell_block HA2.out.box 0 (.int .i64 4) rfl
  have b1 := cell_block HA2.out.box 1 (.slice (some ⟨w.heap.size, 0, none⟩) 16 16) rfl
  have b2 := cell_block HA2.out.box 2 (.slice (some ⟨w.heap.size + 1, 0, none⟩) 1 1) rfl
  have b3 := cell_block HA2.out.box 3 (.int .i64 1) rfl
  have b4 := cell_block HA2.out.box 4 (.bool false) rfl
  have b5 := cell_block HA2.out.box 5 (.int .i64 0) rfl
  have b6 := cell_block HA2.out.box 6 (.int .i64 0) rfl
  have b7 := cell_block HA2.out.box 7 (.int .i64 0) rfl
  have b8 := cell_block HA2.out.box 8 (.int .i64 0) rfl
  have b9 := cell_block HA2.out.box 9 (.int .i64 0) rfl
  have hl2 : w.heap.size + 1 + 1 < w2.heap.size := (Array.getElem?_eq_some_iff.1 HA2.out.box).1
  go_wp2_with fail
  refine (all_calls mB (some ⟨w.heap.size, 0, none⟩) 16 16 (some ⟨w.heap.size + 1, 0, none⟩) 1 1 (some ⟨w2.heap.size, 0, none⟩) 1 1 (some ⟨w2.heap.size + 1, 0, none⟩) 1 1 [0] [0] _ (HA2.out.at'.below (below_al (bl1 w2 _) _)) ((ints_of w2 [0] #[.int .i64 0] rfl (by decide) rfl).below (bl1 _ _)) (ints_of _ [0] #[.int .i64 0] rfl (by decide) (by simp))).mono ?_
  rintro e w3 ⟨v, rfl, hb3, hown, _⟩
  rw [aw_sh1]
  have hown := hown aw_sh1
  rw [show pathsB mB ([0] : List Int).length ([0] : List Int).length = [⟨0, 0, [77]⟩, ⟨0, 0, [73, 68]⟩, ⟨0, 0, [68, 73]⟩] from aw_all] at hown
  obtain ⟨g, cap, hv⟩ := ownsRow_succ (k := 2) hown
  have y0 := row_cell hown hv 2 (.string { data := #[77] }) rfl
  have y1 := row_cell hown hv 5 (.string { data := #[73, 68] }) rfl
  have y2 := row_cell hown hv 8 (.string { data := #[68, 73] }) rfl
  have hglt := ownBlock_lt hown (g := g) (by rw [hv]; rfl)
  rw [hv]
  clear hown hv
  have HA3 : Hid (AwS w w3) := ((HA2.out.next (bl1 _ _)).next (bl1 _ _)).next hb3
  clear HA2 hb3 b0 b1 b2 b3 b4 b5 b6 b7 b8 b9
  have b0 := cell_block HA3.out.box 0 (.int .i64 4) rfl
  have b1 := cell_block HA3.out.box 1 (.slice (some ⟨w.heap.size, 0, none⟩) 16 16) rfl
  have b2 := cell_block HA3.out.box 2 (.slice (some ⟨w.heap.size + 1, 0, none⟩) 1 1) rfl
  have b3 := cell_block HA3.out.box 3 (.int .i64 1) rfl
  have b4 := cell_block HA3.out.box 4 (.bool false) rfl
  have b5 := cell_block HA3.out.box 5 (.int .i64 0) rfl
  have b6 := cell_block HA3.out.box 6 (.int .i64 0) rfl
  have b7 := cell_block HA3.out.box 7 (.int .i64 0) rfl
  have b8 := cell_block HA3.out.box 8 (.int .i64 0) rfl
  have b9 := cell_block HA3.out.box 9 (.int .i64 0) rfl
  have hl3 : w.heap.size + 1 + 1 < w3.heap.size := (Array.getElem?_eq_some_iff.1 HA3.out.box).1
  go_wp2_with fail
  refine ((best_calls mB (some ⟨w.heap.size, 0, none⟩) 16 16 (some ⟨w.heap.size + 1, 0, none⟩) 1 1 (some ⟨w3.heap.size, 0, none⟩) 4 4 (some ⟨w3.heap.size + 1, 0, none⟩) 3 3 [0, 1, 2, 3] [0, 2, 3] _ (HA3.out.at'.below (below_al (bl1 w3 _) _)) ((ints_of w3 [0, 1, 2, 3] #[.int .i64 0, .int .i64 1, .int .i64 2, .int .i64 3] rfl (by decide) rfl).below (bl1 _ _)) (ints_of _ [0, 2, 3] #[.int .i64 0, .int .i64 2, .int .i64 3] rfl (by decide) (by simp))).mono (R' := fun e w' => e = .returned (.tuple #[.agg #[.int .i64 1, .int .i64 0, .int .i64 0, .string { data := #[77, 68, 77, 77] }], .int .i64 0]) ∧ Below ((w3.alloc (.cells #[.int .i64 0, .int .i64 1, .int .i64 2, .int .i64 3] 3)).alloc (.cells #[.int .i64 0, .int .i64 2, .int .i64 3] 3)).heap.size ((w3.alloc (.cells #[.int .i64 0, .int .i64 1, .int .i64 2, .int .i64 3] 3)).alloc (.cells #[.int .i64 0, .int .i64 2, .int .i64 3] 3)) w') (fun e w' h => ⟨by
      have h1 := h.1
      rw [aw_bv, aw_be] at h1
      exact h1, h.2⟩)).mono ?_
  rintro e w4 ⟨rfl, hb4⟩
  have hbw4 : Below w3.heap.size w3 w4 := (below_al (bl1 w3 _) _).trans (hb4.mono (by simp; omega))
  have x0 : w4.cell? ⟨g, 2, none⟩ = some (.string { data := #[77] }) := (hbw4.cell (p := ⟨g, 2, none⟩) hglt.2).trans y0
  have x1 : w4.cell? ⟨g, 5, none⟩ = some (.string { data := #[73, 68] }) := (hbw4.cell (p := ⟨g, 5, none⟩) hglt.2).trans y1
  have x2 : w4.cell? ⟨g, 8, none⟩ = some (.string { data := #[68, 73] }) := (hbw4.cell (p := ⟨g, 8, none⟩) hglt.2).trans y2
  have hg4 : g < w4.heap.size := Nat.lt_of_lt_of_le hglt.2 hbw4.size
  have HB4 : Hid (Below w.heap.size w w4) := HA3.out.low.trans (hbw4.mono HA3.out.low.size)
  clear y0 y1 y2 HA3 hb4 hbw4 b0 b1 b2 b3 b4 b5 b6 b7 b8 b9 hglt
  go_wp2
  go_ret
  exact ⟨rfl, below_al HB4.out _⟩
end Go.Proofs.Ytegndeefddlccaa
