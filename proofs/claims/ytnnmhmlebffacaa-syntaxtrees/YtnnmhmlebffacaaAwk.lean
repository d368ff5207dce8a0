/-
  The chapter's examples.
-/
import Derived.Test.YtnnmhmlebffacaaParse
namespace Go.Proofs.Ytnnmhmlebffacaa
open Go.RowKit Go.Deep

def awB : List UInt8 := [109, 97, 116, 99, 104, 32, 50, 59, 32, 103, 97, 112, 32, 52, 44, 32, 49, 32, 43, 32, 50, 32, 42, 32, 51, 59]
def awMul : Ex := (⟨7, 0, [], 22⟩, ofL [(⟨1, 2, [], 20⟩, .nil), (⟨1, 3, [], 24⟩, .nil)])
def awAdd : Ex := (⟨5, 0, [], 18⟩, ofL [(⟨1, 1, [], 16⟩, .nil), awMul])
def awT : List It := [⟨3, [], ofL [(⟨1, 2, [], 6⟩, .nil)], 0⟩, ⟨6, [], ofL [(⟨1, 4, [], 13⟩, .nil), awAdd], 9⟩]
theorem aw1 : parseW awB = (awT, 0, 0) := by kernel_rfl
theorem aw2 : parseW [109, 97, 116, 99, 104, 32, 59] = ([], 70, 6) := by kernel_rfl
theorem keepc {W W' : World} (h : Below W.heap.size W W') {p : Addr} {u : Value} (hc : W.cell? p = some u) : W'.cell? p = some u := by
  rw [h.cell (World.block_lt_of_cell? W _ hc)]; exact hc
/-- What is read of the example's tree. -/
theorem aw_cells {S : Nat → Prop} {w : World} {ao : Option Addr} {n : Nat} (h : ItsAt true S w awT ao n) : n = 2 ∧ ∃ g off g5 off5 k5 g6 off6 k6, ao = some ⟨g, off, none⟩ ∧
    w.cell? ⟨g, off + 4, none⟩ = some (.int .i64 6) ∧ w.cell? ⟨g, off + 4 + 2, none⟩ = some (.slice (some ⟨g5, off5, none⟩) 2 k5) ∧ w.cell? ⟨g, off + 4 + 3, none⟩ = some (.int .i64 9) ∧
    w.cell? ⟨g5, off5 + 5, none⟩ = some (.int .i64 5) ∧ w.cell? ⟨g5, off5 + 5 + 1, none⟩ = some (.int .i64 0) ∧ w.cell? ⟨g5, off5 + 5 + 2, none⟩ = some (.string ⟨#[]⟩) ∧ w.cell? ⟨g5, off5 + 5 + 3, none⟩ = some (.slice (some ⟨g6, off6, none⟩) 2 k6) ∧ w.cell? ⟨g5, off5 + 5 + 4, none⟩ = some (.int .i64 18) ∧
    w.cell? ⟨g6, off6 + 5, none⟩ = some (.int .i64 7) := by
  obtain ⟨g, off, _, _, _, m, rfl, ha, _, _, _, _, _, _, hr⟩ := h
  obtain ⟨g', off', ka, kn, kc, m', rfl, ha', _, _, _, _, hc, hf, hr'⟩ := hr
  cases ha'
  have hm : m' = 0 := hr'
  subst hm
  obtain ⟨g5, off5, _, _, _, m5, rfl, rfl, _, _, _, _, _, _, hr5⟩ := hf
  obtain ⟨g5', off5', ka5, kn5, kc5, m5', rfl, ha5, _, _, _, _, hc5, hf5, hr5'⟩ := hr5
  cases ha5
  have hm5 : m5' = 0 := hr5'
  subst hm5
  obtain ⟨g6, off6, _, _, _, m6, rfl, rfl, _, _, _, _, _, _, hr6⟩ := hf5
  obtain ⟨g6', off6', ka6, kn6, kc6, m6', rfl, ha6, _, _, _, _, hc6, _, hr6'⟩ := hr6
  cases ha6
  have hm6 : m6' = 0 := hr6'
  subst hm6
  exact ⟨rfl, g, off, g5, off5, kc, g6, off6, kc5, ha, hc 0 _ rfl, hc 2 _ rfl, hc 3 _ rfl, hc5 0 _ rfl, hc5 1 _ rfl, hc5 2 _ rfl, hc5 3 _ rfl, hc5 4 _ rfl, hc6 0 _ rfl⟩
set_option maxRecDepth 20000 in
set_option maxHeartbeats 4000000 in
theorem awake_calls (w : World) : Calls Try.prog 13 #[] w fun e w' => e = .returned (.bool true) ∧ Below w.heap.size w w' := by
  have HP1 : Hid (∀ w, Calls Try.prog 9 #[.string ⟨#[109, 97, 116, 99, 104, 32, 50, 59, 32, 103, 97, 112, 32, 52, 44, 32, 49, 32, 43, 32, 50, 32, 42, 32, 51, 59]⟩] w fun e w' => TreePost (awT, 0, 0) w e w') := fun w => by
    have := parse_calls ⟨#[109, 97, 116, 99, 104, 32, 50, 59, 32, 103, 97, 112, 32, 52, 44, 32, 49, 32, 43, 32, 50, 32, 42, 32, 51, 59]⟩ w
    rw [show (⟨#[109, 97, 116, 99, 104, 32, 50, 59, 32, 103, 97, 112, 32, 52, 44, 32, 49, 32, 43, 32, 50, 32, 42, 32, 51, 59]⟩ : ByteArray).data.toList = awB from rfl, aw1] at this
    exact this
  have HP2 : Hid (∀ w, Calls Try.prog 9 #[.string ⟨#[109, 97, 116, 99, 104, 32, 59]⟩] w fun e w' => TreePost ([], 70, 6) w e w') := fun w => by
    have := parse_calls ⟨#[109, 97, 116, 99, 104, 32, 59]⟩ w
    rw [show (⟨#[109, 97, 116, 99, 104, 32, 59]⟩ : ByteArray).data.toList = [109, 97, 116, 99, 104, 32, 59] from rfl, aw2] at this
    exact this
  go_enter Try.func13, Try.ntmps13
  go_wp2_with fail
  refine (HP1.out _).mono ?_
  rintro e w1 ⟨ao, n, c, rfl, _, hI, hb1⟩
  obtain ⟨rfl, g, off, g5, off5, k5, g6, off6, k6, rfl, c0, c2, c3, d0, d1, d2, d3, d4, e0⟩ := aw_cells hI
  have HB : Hid (Below w.heap.size w w1) := hb1
  clear hI hb1 HP1
  have HBB : ∀ o o', Below w1.heap.size w1 ((w1.alloc o).alloc o') := fun o o' => ((Below.refl _ _).alloc (Nat.le_refl _) o).alloc (by simp) o'
  have c0' := fun o o' => keepc (HBB o o') c0
  have c2' := fun o o' => keepc (HBB o o') c2
  have d0' := fun o o' => keepc (HBB o o') d0
  have d1' := fun o o' => keepc (HBB o o') d1
  have d2' := fun o o' => keepc (HBB o o') d2
  have d3' := fun o o' => keepc (HBB o o') d3
  have d4' := fun o o' => keepc (HBB o o') d4
  have HK : Hid (∀ W, Below w1.heap.size w1 W → W.cell? ⟨g, off + 4, none⟩ = some (.int .i64 6) ∧ W.cell? ⟨g, off + 4 + 2, none⟩ = some (.slice (some ⟨g5, off5, none⟩) 2 k5) ∧ W.cell? ⟨g, off + 4 + 3, none⟩ = some (.int .i64 9) ∧ W.cell? ⟨g6, off6 + 5, none⟩ = some (.int .i64 7)) := fun W hW => ⟨keepc hW c0, keepc hW c2, keepc hW c3, keepc hW e0⟩
  have q2 : ((2 : Int) != 2) = false := rfl
  have q0 : ((0 : Int) != 0) = false := rfl
  clear c0 c2 c3 d0 d1 d2 d3 d4 e0 HBB
  go_wp2_with fail
  refine (HP2.out _).mono ?_
  rintro e w2 ⟨ao2, n2, cc2, rfl, _, _, hb2⟩
  have hs3 : (((w1.alloc (.cells #[.slice (some ⟨g, off, none⟩) 2 c] 24)).alloc (.cells #[.int .i64 0, .int .i64 0] 27)).alloc (.cells #[.int .i64 5, .int .i64 0, .string ⟨#[]⟩, .slice (some ⟨g6, off6, none⟩) 2 k6, .int .i64 18] 35)).heap.size = w1.heap.size + 3 := by simp
  have hB3 : Below w1.heap.size w1 (((w1.alloc (.cells #[.slice (some ⟨g, off, none⟩) 2 c] 24)).alloc (.cells #[.int .i64 0, .int .i64 0] 27)).alloc (.cells #[.int .i64 5, .int .i64 0, .string ⟨#[]⟩, .slice (some ⟨g6, off6, none⟩) 2 k6, .int .i64 18] 35)) := (((Below.refl _ _).alloc (Nat.le_refl _) _).alloc (by simp) _).alloc (by simp; omega) _
  have ht : w2.heap[w1.heap.size]? = some (.cells #[.slice (some ⟨g, off, none⟩) 2 c] 24 (0, 0)) := by
    rw [hb2.block _ (by rw [hs3]; omega)]
    exact heap_old (heap_old (heap_alloc_new w1 _))
  have he : w2.heap[w1.heap.size + 2]? = some (.cells #[.int .i64 5, .int .i64 0, .string ⟨#[]⟩, .slice (some ⟨g6, off6, none⟩) 2 k6, .int .i64 18] 35 (0, 0)) := by
    rw [hb2.block _ (by rw [hs3]; omega)]
    have := heap_alloc_new ((w1.alloc (.cells #[.slice (some ⟨g, off, none⟩) 2 c] 24)).alloc (.cells #[.int .i64 0, .int .i64 0] 27)) (.cells #[.int .i64 5, .int .i64 0, .string ⟨#[]⟩, .slice (some ⟨g6, off6, none⟩) 2 k6, .int .i64 18] 35)
    rwa [show ((w1.alloc (.cells #[.slice (some ⟨g, off, none⟩) 2 c] 24)).alloc (.cells #[.int .i64 0, .int .i64 0] 27)).heap.size = w1.heap.size + 2 by simp] at this
  have hB2 : Below w1.heap.size w1 w2 := hB3.trans (hb2.mono hB3.size)
  have HB2 : Hid (∀ o o', Below w.heap.size w ((w2.alloc o).alloc o')) := fun o o' => by
    have h1 := HB.out.trans (hB2.mono HB.out.size)
    exact (h1.alloc h1.size o).alloc (by have := h1.size; simp; omega) o'
  have hBB : ∀ o o', Below w2.heap.size w2 ((w2.alloc o).alloc o') := fun o o' => ((Below.refl _ _).alloc (Nat.le_refl _) o).alloc (by simp) o'
  obtain ⟨x0, x2, x3, y0⟩ := HK.out _ hB2
  have x0' := fun o o' => keepc (hBB o o') x0
  have x3' := fun o o' => keepc (hBB o o') x3
  have y0' := fun o o' => keepc (hBB o o') y0
  have t0' := fun o o' => keepc (hBB o o') (blk (i := 0) ht rfl)
  have e0' := fun o o' => keepc (hBB o o') (blk (i := 0) he rfl)
  have e3' := fun o o' => keepc (hBB o o') (blk (i := 3) he rfl)
  have e4' := fun o o' => keepc (hBB o o') (blk (i := 4) he rfl)
  clear hb2 hs3 hB3 ht he hB2 hBB x0 x2 x3 y0 HK HP2 c0' c2' d0' d1' d2' d3' d4' HB
  go_wp2
  go_ret
  exact ⟨rfl, HB2.out _ _⟩
end Go.Proofs.Ytnnmhmlebffacaa
