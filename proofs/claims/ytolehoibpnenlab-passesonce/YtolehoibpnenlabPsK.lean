/-
  What is folded or clamped is right.
-/
import Derived.Test.YtolehoibpnenlabPsD
namespace Go.Proofs.Ytolehoibpnenlab
open Go.RowKit Go.Deep Go.Maps

theorem idx_cons (a : Int) (r : List Int) (v : Int) : idxB (a :: r) v = (if a < v then 1 else 0) + idxB r v := by
  unfold idxB
  rw [List.filter_cons]
  by_cases h : a < v
  · simp [h]; omega
  · simp [h]
theorem idx_low {l : List Int} {v : Int} (h : ∀ a ∈ l, ¬ a < v) : idxB l v = 0 := by
  unfold idxB
  rw [List.filter_eq_nil_iff.2 (fun a ha => by simpa using h a ha)]
  rfl
theorem idx_nat (l : List Int) (v : Int) : 0 ≤ idxB l v := by unfold idxB; omega
/-- A number of a rising list stands at its place. -/
theorem idx_at : ∀ {l : List Int} {v : Int}, Rising l → v ∈ l → idxB l v < l.length ∧ vAt l (idxB l v) = v
  | [], _, _, h => by simp at h
  | a :: r, v, hr, h => by
    have hr' := List.pairwise_cons.1 hr
    rcases List.mem_cons.1 h with rfl | h
    · have h0 : idxB (v :: r) v = 0 := idx_low fun b hb => by
        rcases List.mem_cons.1 hb with rfl | hb
        · omega
        · have := hr'.1 b hb; omega
      rw [h0]
      exact ⟨by simp, rfl⟩
    · have hlt := hr'.1 v h
      obtain ⟨i1, i2⟩ := idx_at hr'.2 h
      have hn := idx_nat r v
      rw [idx_cons, if_pos hlt]
      refine ⟨by simp only [List.length_cons]; omega, ?_⟩
      unfold vAt at i2 ⊢
      rw [show (1 + idxB r v).toNat = (idxB r v).toNat + 1 by omega]
      simpa using i2
theorem valF_nums : ∀ (K us : List Int), (∀ v ∈ K, -maxV ≤ v ∧ v ≤ maxV) → valF (K.map numD) us = .ok (us ++ K)
  | [], us, _ => by simp [valF]
  | n :: r, us, h => by
    rw [List.map_cons, valF_ok (by simp [defB, numD]) (by rw [inB_iff]; simpa [rawB, numD] using h n (by simp)), valF_nums r _ (fun v hv => h v (List.mem_cons_of_mem _ hv))]
    simp [rawB, numD]
theorem vals_nums {K : List Int} (h : ∀ v ∈ K, -maxV ≤ v ∧ v ≤ maxV) (hl : K.length ≤ 5004) : valsB (K.map numD) = (K, 0) := by
  rw [valsB_eq (by simpa using hl), valF_nums K [] h]
  rfl
theorem edges_map {ns nd nd' : Int} (f : Int × Int → Int × Int) (h1 : ∀ e, (f e).1 = e.1) : ∀ (l : List (Int × Int)) (least : Int), (∀ e ∈ l, (f e).2 = -1 ∨ (0 ≤ (f e).2 ∧ (f e).2 ≤ nd' - 1)) → edgesB ns nd least l = true → edgesB ns nd' least (l.map f) = true
  | [], _, _, _ => rfl
  | e :: r, least, hc, h => by
    simp only [edgesB, Bool.and_eq_true, Bool.or_eq_true, decide_eq_true_eq, inI_iff] at h
    rw [List.map_cons]
    simp only [edgesB, Bool.and_eq_true, Bool.or_eq_true, decide_eq_true_eq, inI_iff]
    rw [h1 e]
    exact ⟨⟨h.1.1, hc e (by simp)⟩, edges_map f h1 r _ (fun z hz => hc z (List.mem_cons_of_mem _ hz)) h.2⟩
theorem vAt_mem {vs : List Int} {p : Int} (h : 0 ≤ p ∧ p < vs.length) : vAt vs p ∈ vs := by
  unfold vAt
  have hl : p.toNat < vs.length := by omega
  rw [List.getD_eq_getElem?_getD, List.getElem?_eq_getElem hl]
  exact List.getElem_mem _
theorem nums_mem {x : Rc} {vs : List Int} {p : Int} (h : p ∈ placesL x) : vAt vs p ∈ keptB x vs := by
  rw [(kept_rising x vs).2, numsP]
  exact List.mem_map.2 ⟨p, h, rfl⟩
theorem placesL_len (x : Rc) (h : rightR x = true) : (placesL x).length ≤ 2000 ∧ ∀ p ∈ placesL x, 0 ≤ p ∧ p < x.defs.length := by
  refine ⟨?_, ?_⟩
  · have h1 := (right_subst h).1
    have h2 := (right_states h).1
    have h3 : ∀ (l : List St), (∀ s ∈ l, s.2.length ≤ 100) → (costsS l).length ≤ l.length * 100 := by
      intro l
      induction l with
      | nil => intro _; simp [costsS]
      | cons s r ih =>
        intro hl
        have i1 := ih (fun t ht => hl t (List.mem_cons_of_mem _ ht))
        have i2 : (costsL s.2).length ≤ s.2.length := by unfold costsL; exact Nat.le_trans (List.length_filter_le _ _) (by simp)
        have i3 := hl s (by simp)
        rw [costsS] at i1 ⊢
        rw [List.flatMap_cons, List.length_append, List.length_cons]
        omega
    have h4 := h3 x.states (right_edges h)
    rw [placesL]
    simp only [List.length_cons, List.length_append]
    omega
  · intro p hp
    rw [placesL] at hp
    obtain ⟨e1, e2⟩ := right_ends h
    rcases List.mem_cons.1 hp with rfl | hp
    · exact e1
    rcases List.mem_cons.1 hp with rfl | hp
    · exact e2
    rcases List.mem_append.1 hp with hp | hp
    · exact (right_subst h).2.2 p hp
    · obtain ⟨s, hs, hps⟩ := List.mem_flatMap.1 hp
      simp only [costsL, List.mem_filter, List.mem_map, decide_eq_true_eq] at hps
      obtain ⟨⟨e, he, rfl⟩, hne⟩ := hps
      have := right_costs h s hs e he
      omega
theorem withF_len (n : Int) : ∀ (l : List Int) (b : Bool), (withF n b l).length ≤ l.length + 1
  | [], b => by cases b <;> simp [withF]
  | a :: r, b => by
    have h1 : ∀ c, (withF n c r).length ≤ r.length + 1 := withF_len n r
    cases b with
    | true =>
      rw [with_put]
      exact Nat.le_trans (List.length_filter_le _ _) (by simp)
    | false =>
      by_cases h : n ≤ a
      · simp only [withF, h, decide_true, Bool.not_false, Bool.and_self, if_true, Bool.or_true, with_put]
        have := List.length_filter_le (fun z => decide (z ≠ n)) r
        by_cases h2 : a = n
        · simp [h2]; simp at this; omega
        · simp [h2]; simp at this; omega
      · have h3 := h1 false
        have h2 : a ≠ n := by omega
        simp [withF, h, h2]
        omega
theorem kept_len (x : Rc) (vs : List Int) : (keptB x vs).length ≤ (placesL x).length := by
  have key : ∀ (ns l : List Int), (ns.foldl (fun l n => withF n false l) l).length ≤ ns.length + l.length := by
    intro ns
    induction ns with
    | nil => intro l; simp
    | cons n r ih =>
      intro l
      have h1 := ih (withF n false l)
      have h2 := withF_len n l false
      rw [List.foldl_cons, List.length_cons]
      omega
  have := key (numsP x vs) []
  rw [numsP, List.length_map] at this
  unfold keptB numsP
  simpa using this
theorem fold_right {x : Rc} {vs : List Int} (h : rightR x = true) (hv : (valsB x.defs).1 = vs) : rightR (foldB x vs) = true ∧ (valsB (foldB x vs).defs).1 = keptB x vs := by
  obtain ⟨hk1, hk2⟩ := kept_rising x vs
  have hvl : vs.length = x.defs.length := by rw [← hv]; exact (right_defs h).2
  have hkin : ∀ v ∈ keptB x vs, -maxV ≤ v ∧ v ≤ maxV := fun v hm => by
    have h1 := (hk2 v).1 hm
    rw [numsP] at h1
    obtain ⟨p, hp, rfl⟩ := List.mem_map.1 h1
    have h2 := (placesL_len x h).2 p hp
    have h3 := vAt_mem (vs := vs) (p := p) (by omega)
    rw [← hv] at h3 ⊢
    exact valsB_in x.defs _ h3
  have hkl : (keptB x vs).length ≤ 5004 := by
    have h1 := kept_len x vs
    have h2 := (placesL_len x h).1
    omega
  have hvals : valsB (foldB x vs).defs = (keptB x vs, 0) := vals_nums hkin hkl
  have hidx : ∀ p ∈ placesL x, 0 ≤ idxB (keptB x vs) (vAt vs p) ∧ idxB (keptB x vs) (vAt vs p) < (keptB x vs).length ∧ vAt (keptB x vs) (idxB (keptB x vs) (vAt vs p)) = vAt vs p := fun p hp => by
    obtain ⟨i1, i2⟩ := idx_at hk1 (nums_mem (vs := vs) hp)
    exact ⟨idx_nat _ _, i1, i2⟩
  refine ⟨?_, by rw [hvals]⟩
  have hdl : ((foldB x vs).defs.length : Int) = ((keptB x vs).length : Int) := by simp [foldB, foldW]
  have h0 := h
  simp only [rightR, substR, endsR, statesR, placesB, Bool.and_eq_true, decide_eq_true_eq, inI_iff, List.all_eq_true, hv] at h
  obtain ⟨_, ⟨hl1, hl2, hl3⟩, ⟨hb1, hb2, hb3, hb4, hb5⟩, hb, hs1, hs2⟩ := h
  simp only [rightR, substR, endsR, statesR, placesB, Bool.and_eq_true, decide_eq_true_eq, inI_iff, List.all_eq_true, hvals]
  have mfront : x.front ∈ placesL x := by simp [placesL]
  have mback : x.back ∈ placesL x := by simp [placesL]
  refine ⟨trivial, ⟨hl1, by simpa [foldB, foldW] using hl2, ?_⟩, ⟨hb1, hb2, ?_, ?_, ?_⟩, hb, by simpa [foldB, foldW] using hs1, ?_⟩
  · intro q hq
    simp only [foldB, foldW, List.mem_map] at hq
    obtain ⟨p, hp, rfl⟩ := hq
    obtain ⟨i1, i2, _⟩ := hidx p (by simp [placesL, hp])
    rw [hdl]
    omega
  · intro q hq
    simp only [List.mem_cons, List.not_mem_nil, or_false] at hq
    rcases hq with rfl | rfl
    · obtain ⟨i1, i2, _⟩ := hidx x.front mfront
      simp only [foldB, foldW]
      omega
    · obtain ⟨i1, i2, _⟩ := hidx x.back mback
      simp only [foldB, foldW]
      omega
  · simp only [foldB, foldW]
    rw [(hidx x.front mfront).2.2]; exact hb4
  · simp only [foldB, foldW]
    rw [(hidx x.back mback).2.2]; exact hb5
  · intro s hs
    simp only [foldB, foldW, List.mem_map] at hs
    obtain ⟨t, ht, rfl⟩ := hs
    have hst := hs2 t ht
    simp only [stateB, Bool.and_eq_true] at hst ⊢
    refine ⟨hst.1, ?_⟩
    rw [hdl, show (foldB x vs).states.length = x.states.length by simp [foldB, foldW]]
    refine edges_map (foldE (keptB x vs) vs) (fun e => rfl) t.2 (-1) (fun e he => ?_) hst.2
    simp only [foldE]
    by_cases hc : e.2 = -1
    · left; rw [if_pos hc]
    · right
      rw [if_neg hc]
      obtain ⟨i1, i2, _⟩ := hidx e.2 (by
        rw [placesL]
        refine List.mem_cons_of_mem _ (List.mem_cons_of_mem _ (List.mem_append_right _ ?_))
        refine List.mem_flatMap.2 ⟨t, ht, ?_⟩
        simp only [costsL, List.mem_filter, List.mem_map, decide_eq_true_eq]
        exact ⟨⟨e, he, rfl⟩, hc⟩)
      omega
theorem clamp_defs (x : Rc) : (clampB x).defs = x.defs ∧ (clampB x).subst = x.subst ∧ (clampB x).states = x.states := by
  unfold clampB
  split
  · split
    · exact ⟨rfl, rfl, rfl⟩
    · split
      · exact ⟨rfl, rfl, rfl⟩
      · split <;> exact ⟨rfl, rfl, rfl⟩
  · exact ⟨rfl, rfl, rfl⟩
theorem clamp_right {x : Rc} (h : rightR x = true) : rightR (clampB x) = true := by
  have hb : bandR x = true := by simp only [rightR, Bool.and_eq_true] at h; exact h.2.2.2.1
  have key : ∀ z : Rc, z.letters = x.letters → z.defs = x.defs → z.subst = x.subst → z.beg = x.beg → z.fin = x.fin → z.front = x.front → z.back = x.back → z.states = x.states → bandR z = true → rightR z = true := by
    intro z e1 e2 e3 e4 e5 e6 e7 e8 e9
    simp only [rightR, substR, endsR, statesR, Bool.and_eq_true] at h ⊢
    rw [e1, e2, e3, e4, e5, e6, e7, e8]
    exact ⟨h.1, h.2.1, h.2.2.1, e9, h.2.2.2.2⟩
  unfold clampB
  split
  · rename_i hbd
    have hlh : x.lo ≤ x.hi := by simpa [bandR, hbd] using hb
    split
    · exact key _ rfl rfl rfl rfl rfl rfl rfl rfl (by simp [bandR, hbd])
    · split
      · exact key _ rfl rfl rfl rfl rfl rfl rfl rfl (by simp [bandR, hbd])
      · split
        · exact key _ rfl rfl rfl rfl rfl rfl rfl rfl (by simp [bandR])
        · exact key _ rfl rfl rfl rfl rfl rfl rfl rfl (by simp [bandR, hbd]; omega)
  · exact h
end Go.Proofs.Ytolehoibpnenlab
