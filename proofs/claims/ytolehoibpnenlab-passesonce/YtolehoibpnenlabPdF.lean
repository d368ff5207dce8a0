/-
  A state is taken out of its row: slices.Delete.
-/
import Derived.Test.YtolehoibpnenlabPdE
namespace Go.Proofs.Ytolehoibpnenlab
open Go.RowKit Go.Deep Go.Maps

theorem zero39 : ∀ w, (zeroValue 39).run Try.prog w = .ok (.agg #[.int .i64 0, .slice none 0 0]) w := fun w => by
  have h := Try.zeroValue39
  simp [h]
theorem srRow_take (l : List Sr) (i : Nat) : (srRow l).take (i * 2) = srRow (l.take i) := by
  unfold srRow
  induction l generalizing i with
  | nil => simp
  | cons a r ih =>
    cases i with
    | zero => simp
    | succ i =>
      rw [List.take_succ_cons, List.flatMap_cons, List.flatMap_cons, ← ih i, show (i + 1) * 2 = (srCells a).length + i * 2 by simp [srCells]; omega, List.take_length_add_append]
theorem srRow_drop (l : List Sr) (i : Nat) : (srRow l).drop (i * 2) = srRow (l.drop i) := by
  unfold srRow
  induction l generalizing i with
  | nil => simp
  | cons a r ih =>
    cases i with
    | zero => simp
    | succ i =>
      rw [List.drop_succ_cons, List.flatMap_cons, ← ih i, show (i + 1) * 2 = (srCells a).length + i * 2 by simp [srCells]; omega, List.drop_length_add_append]
theorem srRow_erase (l : List Sr) (i : Nat) : (srRow l).take (i * 2) ++ (srRow l).drop ((i + 1) * 2) = srRow (l.eraseIdx i) := by
  rw [srRow_take, srRow_drop, List.eraseIdx_eq_take_drop_succ]
  simp [srRow]
set_option maxRecDepth 20000 in
set_option maxHeartbeats 4000000 in
theorem delSt_calls (sl : List Sr) (base g n cc i : Nat) (w : World) (hl : sl.length = n) (hn : n ≤ 100) (hi : i < n) (h : w.ownsRow base 39 2 (.slice (some ⟨g, 0, none⟩) n cc) n (srRow sl)) :
    Calls Try.prog 56 #[.slice (some ⟨g, 0, none⟩) n cc, .int .i64 (i : Int), .int .i64 ((i : Int) + 1)] w fun e w' => e = .returned (.slice (some ⟨g, 0, none⟩) (n - 1) cc) ∧ w'.ownsRow base 39 2 (.slice (some ⟨g, 0, none⟩) (n - 1) cc) (n - 1) (srRow (sl.eraseIdx i)) ∧ w.grownBy w' (some g) := by
  obtain ⟨hcap, hcm, hth⟩ := own_there h
  unfold maxLen at hcm
  obtain ⟨i0, hi0, hz0, hz1, hz2⟩ := info_parts info52
  obtain ⟨j, hj⟩ : ∃ j : Nat, j = i + 1 := ⟨_, rfl⟩
  obtain ⟨news, hnews⟩ : ∃ news, news = (srRow sl).drop (j * 2) := ⟨_, rfl⟩
  have hsl := srRow_len sl
  have hlen : news.length = (n - j) * 2 := by rw [hnews, List.length_drop, hsl, hl]; omega
  obtain ⟨A, hA, hsrc⟩ : ∃ A : Addr, (if cc = j then some (⟨g, 0, none⟩ : Addr) else some ⟨g, j * 2, none⟩) = some A ∧ Hid (∀ t u, news[t]? = some u → w.drew.cell? (A.add t) = some u) := by
    by_cases hc : cc = j
    · refine ⟨⟨g, 0, none⟩, by simp [hc], fun t u hu => ?_⟩
      have h0 : news.length = 0 := by rw [hlen]; omega
      rw [List.length_eq_zero_iff.1 h0] at hu
      simp at hu
    · refine ⟨⟨g, j * 2, none⟩, by simp [hc], fun t u hu => ?_⟩
      rw [Go.WideShapes.add_plain]
      rw [hnews, List.getElem?_drop] at hu
      exact (owned_cells h _ _ hu).1
  have s1 : Hid (news.length = (n - j) * 2) := hlen
  have s2 : Hid (∀ u ∈ news, u.oneCell' = true) := fun u hu => by
    rw [hnews] at hu
    exact srRow_one sl u (List.mem_of_mem_drop hu)
  have s3 : Hid (∀ t, t < news.length → (w.drew.cell? ⟨g, 0 + i * 2 + t, none⟩).isSome = true ∧ w.drew.frozen? ⟨g, 0 + i * 2 + t, none⟩ = false) := fun t ht => hth _ (by rw [hlen] at ht; omega)
  obtain ⟨W1, hW1⟩ : ∃ W1, W1 = w.drew.setCells g (0 + i * 2) news := ⟨_, rfl⟩
  have hrow : W1.ownsRow base 39 2 (.slice (some ⟨g, 0, none⟩) (n - 1) cc) (n - 1) (srRow (sl.eraseIdx i)) := by
    have h1 := own_lay (w := w.drew) (owned_heap h rfl) i (n - 1) news (by rw [hlen]; omega) (by omega) (by omega)
    rw [hnews, hj, srRow_erase] at h1
    rw [hW1, Nat.zero_add, hnews, hj]
    exact h1
  have hgr : w.grownBy W1 (some g) := by
    rw [hW1]
    exact grown_trans (grown_drew (grown_refl w (some g))) (grown_setCells g _ _ _)
  obtain ⟨_, _, hth1⟩ := own_there hrow
  have hz : i + (n - j) = n - 1 := by omega
  have hcl : ∀ ty, (Builtin.clear_ #[24] ty #[.slice (some ⟨g, (i + (n - j)) * 2, none⟩) (n - (i + (n - j))) (cc - (i + (n - j)))]).run Try.prog W1 = .ok (.tuple #[]) (W1.setCells g ((i + (n - j)) * 2) (Builtin.zeroCells (Value.agg #[.int .i64 0, .slice none 0 0]).cells (n - (i + (n - j)))).toList) := fun ty =>
    run_clear_cells W1 24 39 ty _ Try.underlying24 zero39 2 rfl (by decide) (fun u hu => by simp [Value.cells] at hu; rcases hu with rfl | rfl <;> rfl) g ((i + (n - j)) * 2) (n - (i + (n - j))) _ (by omega) (fun t ht => (hth1 _ (by omega)).1) (fun t ht => (hth1 _ (by omega)).2)
  have HE : Hid ((W1.setCells g ((i + (n - j)) * 2) (Builtin.zeroCells (Value.agg #[.int .i64 0, .slice none 0 0]).cells (n - (i + (n - j)))).toList).ownsRow base 39 2 (.slice (some ⟨g, 0, none⟩) (n - 1) cc) (n - 1) (srRow (sl.eraseIdx i)) ∧ w.grownBy (W1.setCells g ((i + (n - j)) * 2) (Builtin.zeroCells (Value.agg #[.int .i64 0, .slice none 0 0]).cells (n - (i + (n - j)))).toList) (some g) ∧ i + (n - j) = n - 1) := by
    have h1 := own_cut hrow (n - 1) ((i + (n - j)) * 2) (Builtin.zeroCells (Value.agg #[.int .i64 0, .slice none 0 0]).cells (n - (i + (n - j)))).toList (Nat.le_refl _) (by omega)
    rw [List.take_of_length_le (by rw [hrow.1]; exact Nat.le_refl _)] at h1
    exact ⟨h1, grown_trans hgr (grown_setCells g _ _ _), hz⟩
  clear hz
  have hW : Hid (W1 = w.drew.setCells g (0 + i * 2) news) := hW1
  have hic : i ≤ cc := by omega
  have hjc : j ≤ cc := by omega
  have hjn : j ≤ n := by omega
  have hij : i ≤ j := by omega
  have hne : ((i : Int) == (j : Int)) = false := by simp; omega
  have hcz : ¬ cc = i + (n - j) := by omega
  rw [show ((i : Int) + 1) = (j : Int) by omega]
  have HJ : Hid (j = i + 1) := hj
  clear hW1 hrow hgr hth hth1 h hnews hlen hsl hj hl
  go_enter Try.func56, Try.ntmps56
  go_wp2_with fail
  go_region_law (refine step_append_room rfl (.tmp 22) (.tmp 25) 24 rfl 39 i0 2 Try.underlying24 hi0 hz1 g 0 i cc (by simp [Act.eval, Act.put]) A (n - j) (cc - j) news (by simp [Act.eval, Act.put]) s1.out hsrc.out s2.out (by omega) s3.out ?_; rw [← hW.out])
  go_wp2
  all_goals
    go_ret
    refine ⟨?_, HE.out.1, HE.out.2.1⟩
    rw [← HE.out.2.2]
    rfl
end Go.Proofs.Ytolehoibpnenlab
