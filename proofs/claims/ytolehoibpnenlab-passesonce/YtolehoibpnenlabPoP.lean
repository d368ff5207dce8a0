/-
  Passes done once more: Fold and Clamp.
-/
import Derived.Test.YtolehoibpnenlabPsK
import Derived.Test.YtolehoibpnenlabMq
namespace Go.Proofs.Ytolehoibpnenlab

theorem clamp_once (x : Rc) : clampB (clampB x) = clampB x := by
  unfold clampB
  by_cases hb : x.banded = true
  · rw [if_pos hb]
    by_cases h1 : 65536 < x.lo
    · rw [if_pos h1]
      simp [hb]
    · rw [if_neg h1]
      by_cases h2 : x.hi < -65536
      · rw [if_pos h2]
        simp [hb]
      · rw [if_neg h2]
        by_cases h3 : max x.lo (-65536) = -65536 ∧ min x.hi 65536 = 65536
        · rw [if_pos h3]
          simp
        · rw [if_neg h3]
          simp only [hb, if_true]
          rw [if_neg (by omega), if_neg (by omega), if_neg (by omega)]
          have e1 : max (max x.lo (-65536)) (-65536) = max x.lo (-65536) := by omega
          have e2 : min (min x.hi 65536) 65536 = min x.hi 65536 := by omega
          rw [e1, e2]
  · rw [if_neg hb, if_neg hb]
theorem fold_nums {x : Rc} {vs : List Int} : numsP (foldB x vs) (keptB x vs) = numsP x vs := by
  obtain ⟨hk1, hk2⟩ := kept_rising x vs
  have hidx : ∀ p ∈ placesL x, vAt (keptB x vs) (idxB (keptB x vs) (vAt vs p)) = vAt vs p := fun p hp => (idx_at hk1 (nums_mem (vs := vs) hp)).2
  have hne : ∀ p, idxB (keptB x vs) (vAt vs p) ≠ -1 := fun p => by have := idx_nat (keptB x vs) (vAt vs p); omega
  have hc : ∀ (es : List (Int × Int)), (∀ e ∈ es, e.2 ≠ -1 → e.2 ∈ placesL x) → (costsL (es.map (foldE (keptB x vs) vs))).map (vAt (keptB x vs)) = (costsL es).map (vAt vs) := by
    intro es
    induction es with
    | nil => intro _; rfl
    | cons e r ih =>
      intro h
      have h1 := ih fun z hz => h z (List.mem_cons_of_mem _ hz)
      unfold costsL at h1 ⊢
      by_cases hc : e.2 = -1
      · simp only [List.map_cons, foldE, hc, if_true, List.filter_cons, ne_eq, not_true_eq_false, decide_false]
        simpa [foldE] using h1
      · have h2 := hidx e.2 (h e (by simp) hc)
        simp only [List.map_cons, foldE, hc, if_false, List.filter_cons, ne_eq, not_false_eq_true, decide_true, if_true, hne e.2]
        rw [h2]
        congr 1
  have hs : ∀ (l : List St), (∀ s ∈ l, ∀ e ∈ s.2, e.2 ≠ -1 → e.2 ∈ placesL x) → (costsS (l.map (foldS (keptB x vs) vs))).map (vAt (keptB x vs)) = (costsS l).map (vAt vs) := by
    intro l
    induction l with
    | nil => intro _; rfl
    | cons s r ih =>
      intro h
      have h1 := ih fun z hz => h z (List.mem_cons_of_mem _ hz)
      have h2 := hc s.2 (h s (by simp))
      unfold costsS at h1 ⊢
      rw [List.map_cons, List.flatMap_cons, List.flatMap_cons, List.map_append, List.map_append, h1]
      congr 1
  have hin : ∀ s ∈ x.states, ∀ e ∈ s.2, e.2 ≠ -1 → e.2 ∈ placesL x := fun s hs e he hne => by
    rw [placesL]
    refine List.mem_cons_of_mem _ (List.mem_cons_of_mem _ (List.mem_append_right _ (List.mem_flatMap.2 ⟨s, hs, ?_⟩)))
    simp only [costsL, List.mem_filter, List.mem_map, decide_eq_true_eq]
    exact ⟨⟨e, he, rfl⟩, hne⟩
  have h3 := hs x.states hin
  have hsub : ∀ (l : List Int), (∀ p ∈ l, p ∈ placesL x) → (l.map fun p => idxB (keptB x vs) (vAt vs p)).map (vAt (keptB x vs)) = l.map (vAt vs) := by
    intro l h
    rw [List.map_map]
    exact List.map_congr_left fun p hp => hidx p (h p hp)
  have h4 := hsub x.subst fun p hp => by rw [placesL]; simp [hp]
  show ((idxB (keptB x vs) (vAt vs x.front)) :: (idxB (keptB x vs) (vAt vs x.back)) :: ((x.subst.map fun p => idxB (keptB x vs) (vAt vs p)) ++ costsS (x.states.map (foldS (keptB x vs) vs)))).map (vAt (keptB x vs)) = _
  rw [numsP, placesL, List.map_cons, List.map_cons, List.map_append, List.map_cons, List.map_cons, List.map_append, h3, h4, hidx x.front (by simp [placesL]), hidx x.back (by simp [placesL])]
theorem foldE_free {k vs : List Int} {e : Int × Int} (h : e.2 = -1) : foldE k vs e = (e.1, -1) := by rw [foldE, if_pos h]
theorem foldE_cost {k vs : List Int} {e : Int × Int} (h : e.2 ≠ -1) : foldE k vs e = (e.1, idxB k (vAt vs e.2)) := by rw [foldE, if_neg h]
theorem fold_once {x : Rc} {vs : List Int} : foldB (foldB x vs) (keptB x vs) = foldB x vs := by
  obtain ⟨hk1, hk2⟩ := kept_rising x vs
  have hK : keptB (foldB x vs) (keptB x vs) = keptB x vs := by
    have h1 := fold_nums (x := x) (vs := vs)
    unfold keptB at h1 ⊢
    rw [h1]
  have hidx : ∀ p ∈ placesL x, idxB (keptB x vs) (vAt (keptB x vs) (idxB (keptB x vs) (vAt vs p))) = idxB (keptB x vs) (vAt vs p) := fun p hp => by rw [(idx_at hk1 (nums_mem (vs := vs) hp)).2]
  have hne : ∀ p, idxB (keptB x vs) (vAt vs p) ≠ -1 := fun p => by have := idx_nat (keptB x vs) (vAt vs p); omega
  rw [show foldB (foldB x vs) (keptB x vs) = foldW (keptB (foldB x vs) (keptB x vs)) (keptB x vs) (foldB x vs) from rfl, hK]
  obtain ⟨K, hKe⟩ : ∃ K, keptB x vs = K := ⟨_, rfl⟩
  rw [show foldB x vs = foldW (keptB x vs) vs x from rfl, hKe]
  rw [hKe] at hidx hne
  simp only [foldW, Rc.mk.injEq, true_and]
  refine ⟨?_, hidx x.front (by simp [placesL]), hidx x.back (by simp [placesL]), ?_⟩
  · rw [List.map_map]
    exact List.map_congr_left fun p hp => hidx p (by rw [placesL]; simp [hp])
  · rw [List.map_map]
    refine List.map_congr_left fun s hs => ?_
    simp only [Function.comp, foldS, List.map_map, Prod.mk.injEq, true_and]
    refine List.map_congr_left fun e he => ?_
    show foldE K K (foldE K vs e) = foldE K vs e
    by_cases hc : e.2 = -1
    · rw [foldE_free hc, foldE_free rfl]
    · rw [foldE_cost hc, foldE_cost (hne e.2)]
      refine congrArg (Prod.mk e.1) (hidx e.2 ?_)
      rw [placesL]
      refine List.mem_cons_of_mem _ (List.mem_cons_of_mem _ (List.mem_append_right _ (List.mem_flatMap.2 ⟨s, hs, ?_⟩)))
      simp only [costsL, List.mem_filter, List.mem_map, decide_eq_true_eq]
      exact ⟨⟨e, he, rfl⟩, hc⟩
end Go.Proofs.Ytolehoibpnenlab
