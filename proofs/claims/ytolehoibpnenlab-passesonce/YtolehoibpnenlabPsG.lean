/-
  A work whose places are renewed.
-/
import Derived.Test.YtolehoibpnenlabPsF
namespace Go.Proofs.Ytolehoibpnenlab
open Go.RowKit Go.Deep Go.Maps

def rnR (F : Int → Int) (x : Rc) : Rc := { x with front := F x.front, back := F x.back, subst := x.subst.map F, states := x.states.map fun s => (s.1, s.2.map (rnE F)) }
theorem epF_apart (g : Nat) : ∀ (l : List (Int × Int)) (i : Nat), (epF g i l).Pairwise fun a b => a.1 ≠ b.1
  | [], _ => List.Pairwise.nil
  | e :: r, i => by
    rw [epF]
    have ih := epF_apart g r (i + 1)
    by_cases h : e.2 = -1
    · rw [if_pos h, List.nil_append]; exact ih
    · rw [if_neg h, List.singleton_append]
      refine List.pairwise_cons.2 ⟨fun b hb e' => ?_, ih⟩
      obtain ⟨_, _, h3⟩ := epF_block _ _ _ b hb
      rw [← e'] at h3
      simp at h3
      omega
theorem spF_apart (g : Nat) : ∀ (l : List Int) (i : Nat), (spF g i l).Pairwise fun a b => a.1 ≠ b.1
  | [], _ => List.Pairwise.nil
  | p :: r, i => by
    rw [spF]
    refine List.pairwise_cons.2 ⟨fun b hb e' => ?_, spF_apart g r (i + 1)⟩
    obtain ⟨_, _, h3⟩ := spF_block _ _ _ b hb
    rw [← e'] at h3
    simp only at h3
    omega
theorem epS_apart {w : World} {base : Nat} : ∀ (sl : List Sr) (l : List St), Own2 w base sl l → Dj sl → (epS sl l).Pairwise fun a b => a.1 ≠ b.1
  | [], _, _, _ => by simp [epS]
  | _ :: _, [], _, _ => by simp [epS]
  | r :: sl, s :: l, h, hd => by
    rw [epS]
    have htl : Own2 w base sl l := ⟨by have := h.1; simpa using this, fun i r' s' hi hs => h.2 (i + 1) r' s' hi hs⟩
    have hdt : Dj sl := fun i j r1 r2 a hij h1 h2 h3 => hd (i + 1) (j + 1) r1 r2 a (by omega) h1 h2 h3
    refine List.pairwise_append.2 ⟨epF_apart _ _ _, epS_apart sl l htl hdt, fun a ha b hb e => ?_⟩
    obtain ⟨a1, _, _⟩ := epF_block _ _ _ a ha
    obtain ⟨j, r2, s2, e1, e2, e3, e4, _⟩ := epS_block _ _ b hb
    obtain ⟨k1, k2, k3, k4⟩ := h.2 0 r s rfl rfl
    have h0 : s.2 ≠ [] := fun e => by rw [e] at ha; simp [epF] at ha
    obtain ⟨_, q1, _, _⟩ := own_block k4 (by rw [k2]; exact List.length_pos_iff.2 h0)
    obtain ⟨p1, p2, p3, p4⟩ := htl.2 j r2 s2 e1 e2
    obtain ⟨_, q2, _, _⟩ := own_block p4 (by rw [p2]; exact List.length_pos_iff.2 e3)
    refine hd 0 (j + 1) r r2 ⟨blkOf r.2.1, 0, none⟩ (by omega) rfl e1 q1 ?_
    rw [q2, ← e4, ← e, a1]
section
variable {w : World} {base wb : Nat} {x : Rc} {vs : List Int} {y : Ly}
theorem WkAt.epBlk (h : WkAt w base wb x vs y) : ∀ a ∈ epS y.sl x.states, ∃ cs, w.heap[a.1.block]? = some (.cells cs 42 (0, 0)) := fun a ha => by
  obtain ⟨i, r, s, h1, h2, h3, h4, h5⟩ := epS_block _ _ a ha
  obtain ⟨k1, k2, k3, k4⟩ := h.rows.2 i r s h1 h2
  obtain ⟨cs, q1, q2, q3⟩ := own_block k4 (by rw [k2]; exact List.length_pos_iff.2 h3)
  exact ⟨cs, by rw [h4]; exact q3⟩
theorem WkAt.nodup (h : WkAt w base wb x vs y) (hs : 0 < x.subst.length) : (adP wb x y).Pairwise fun a b => a.1 ≠ b.1 := by
  obtain ⟨cs, q1, q3⟩ := h.subBlk hs
  have hsb : blkOf y.sa ≠ wb := fun e => by rw [e, h.box] at q3; cases q3
  have hx : ∀ (b : Addr × Int), b ∈ spF (blkOf y.sa) 0 x.subst ++ epS y.sl x.states → b.1.block ≠ wb := fun b hb => by
    rcases List.mem_append.1 hb with hb | hb
    · rw [(spF_block _ _ _ b hb).1]; exact hsb
    · obtain ⟨cs2, hc⟩ := h.epBlk b hb
      intro e; rw [e, h.box] at hc; cases hc
  rw [adP]
  refine List.pairwise_cons.2 ⟨fun b hb e => ?_, List.pairwise_cons.2 ⟨fun b hb e => ?_, List.pairwise_append.2 ⟨spF_apart _ _ _, epS_apart _ _ h.rows h.apart, fun a ha b hb e => ?_⟩⟩⟩
  · rcases List.mem_cons.1 hb with rfl | hb
    · simp at e
    · exact hx b hb (by rw [← e])
  · exact hx b hb (by rw [← e])
  · obtain ⟨cs2, hc⟩ := h.epBlk b hb
    rw [← e, (spF_block _ _ _ a ha).1, q3] at hc
    cases hc
/-- What stands at a place. -/
theorem spF_cell {g n c : Nat} : ∀ (l pre : List Int), w.ownsRow base 3 1 (.slice (some ⟨g, 0, none⟩) n c) n (itRow (pre ++ l)) → ∀ a ∈ spF g pre.length l, w.cell? a.1 = some (.int .i64 a.2) ∧ w.frozen? a.1 = false
  | [], _, _, a, ha => by simp [spF] at ha
  | p :: r, pre, h, a, ha => by
    rw [spF] at ha
    rcases List.mem_cons.1 ha with rfl | ha
    · exact owned_cells h pre.length _ (by simp [itRow])
    · exact spF_cell r (pre ++ [p]) (by rw [List.append_assoc]; exact h) a (by rw [List.length_append]; exact ha)
theorem epF_cell {g n c : Nat} : ∀ (l pre : List (Int × Int)), w.ownsRow base 42 2 (.slice (some ⟨g, 0, none⟩) n c) n (pcRow (pre ++ l)) → ∀ a ∈ epF g pre.length l, w.cell? a.1 = some (.int .i64 a.2) ∧ w.frozen? a.1 = false
  | [], _, _, a, ha => by simp [epF] at ha
  | e :: r, pre, h, a, ha => by
    rw [epF] at ha
    rcases List.mem_append.1 ha with ha | ha
    · by_cases hc : e.2 = -1
      · simp [hc] at ha
      · simp [hc] at ha
        subst ha
        exact owned_cells h (pre.length * 2 + 1) _ (flat_get (f := pcCells) (s := 2) (fun _ => rfl) _ pre.length e 1 _ (by simp) rfl)
    · exact epF_cell r (pre ++ [e]) (by rw [List.append_assoc]; exact h) a (by rw [List.length_append]; exact ha)
theorem epS_cell : ∀ (sl : List Sr) (l : List St), Own2 w base sl l → ∀ a ∈ epS sl l, w.cell? a.1 = some (.int .i64 a.2) ∧ w.frozen? a.1 = false
  | [], _, _, a, ha => by simp [epS] at ha
  | _ :: _, [], _, a, ha => by simp [epS] at ha
  | r :: sl, s :: l, h, a, ha => by
    rw [epS] at ha
    rcases List.mem_append.1 ha with ha | ha
    · obtain ⟨k1, k2, k3, k4⟩ := h.2 0 r s rfl rfl
      have h0 : s.2 ≠ [] := fun e => by rw [e] at ha; simp [epF] at ha
      obtain ⟨_, q1, _, _⟩ := own_block k4 (by rw [k2]; exact List.length_pos_iff.2 h0)
      obtain ⟨g, hg⟩ : ∃ g, blkOf r.2.1 = g := ⟨_, rfl⟩
      rw [hg] at q1 ha
      rw [q1] at k4
      exact epF_cell s.2 [] (by simpa using k4) a ha
    · exact epS_cell sl l ⟨by have := h.1; simpa using this, fun i r' s' hi hs => h.2 (i + 1) r' s' hi hs⟩ a ha
theorem WkAt.placeCell (h : WkAt w base wb x vs y) (hs : 0 < x.subst.length) : ∀ a ∈ adP wb x y, w.cell? a.1 = some (.int .i64 a.2) ∧ w.frozen? a.1 = false := by
  intro a ha
  rw [adP] at ha
  rcases List.mem_cons.1 ha with rfl | ha
  · exact ⟨h.cell 5 _ rfl, h.froz 5⟩
  rcases List.mem_cons.1 ha with rfl | ha
  · exact ⟨h.cell 6 _ rfl, h.froz 6⟩
  rcases List.mem_append.1 ha with ha | ha
  · obtain ⟨cs, q1, q3⟩ := h.subBlk hs
    have hsub := h.subst
    obtain ⟨g, hg⟩ : ∃ g, blkOf y.sa = g := ⟨_, rfl⟩
    rw [hg] at q1 ha
    rw [q1] at hsub
    exact spF_cell x.subst [] (by simpa using hsub) a ha
  · exact epS_cell _ _ h.rows a ha
/-- All places renewed. -/
theorem WkAt.renewed (F : Int → Int) (h : WkAt w base wb x vs y) (hs : 0 < x.subst.length) : WkAt (setAll F w (adP wb x y)) base wb (rnR F x) vs y := by
  obtain ⟨cs, q1, q3⟩ := h.subBlk hs
  have hsb : blkOf y.sa ≠ wb := fun e => by rw [e, h.box] at q3; cases q3
  rw [adP, setAll, setAll, setAll_append]
  simp only
  -- the box
  have h1 : WkAt ((w.setCell ⟨wb, 5, none⟩ (.int .i64 (F x.front))).setCell ⟨wb, 6, none⟩ (.int .i64 (F x.back))) base wb { x with front := F x.front, back := F x.back } vs y :=
    h.store (grown_trans (grown_set _ _ _ _) (grown_set _ _ _ _)) (by rw [heap_set _ (heap_set _ h.box)]; rfl) rfl rfl rfl
  generalize (w.setCell ⟨wb, 5, none⟩ (.int .i64 (F x.front))).setCell ⟨wb, 6, none⟩ (.int .i64 (F x.back)) = w1 at h1 ⊢
  -- the substitutions
  have hne : ∀ g, g ≠ blkOf y.sa → (setAll F w1 (spF (blkOf y.sa) 0 x.subst)).heap[g]? = w1.heap[g]? := fun g hg => setAll_other F _ _ _ fun a ha e => hg (by rw [← e, (spF_block _ _ _ a ha).1])
  obtain ⟨cs1, _, p3⟩ := h1.subBlk hs
  have hk : ∀ {e : TypeId} {size : Nat} {v : Value} {n : Nat} {xs : List Value}, e ≠ 3 → w1.ownsRow base e size v n xs → (setAll F w1 (spF (blkOf y.sa) 0 x.subst)).ownsRow base e size v n xs := fun he ho =>
    owned_of_block ho fun g cur _ hc => hne g fun e' => by rw [e', p3] at hc; cases hc; exact he rfl
  have h2 : WkAt (setAll F w1 (spF (blkOf y.sa) 0 x.subst)) base wb { x with front := F x.front, back := F x.back, subst := x.subst.map F } vs y := by
    refine ⟨h1.fro, ?_, hk (by decide) h1.defs, ?_, ?_, hk (by decide) h1.states, ⟨h1.rows.1, fun i r s hi hs => ⟨(h1.rows.2 i r s hi hs).1, (h1.rows.2 i r s hi hs).2.1, (h1.rows.2 i r s hi hs).2.2.1, hk (by decide) (h1.rows.2 i r s hi hs).2.2.2⟩⟩, h1.apart, h1.two⟩
    · rw [hne wb (Ne.symm hsb), h1.box]
      simp [wkCells]
    · have hsub := h1.subst
      obtain ⟨g, hg⟩ : ∃ g, blkOf y.sa = g := ⟨_, rfl⟩
      rw [hg] at q1 ⊢
      simp only [List.length_map]
      rw [q1] at hsub ⊢
      exact own_sp F x.subst [] w1 (by simpa using hsub)
    · refine owned_of_block h1.nums fun g cur hv hc => hne g fun e' => ?_
      rcases h1.nums.2 with ⟨hv0, _⟩ | ⟨g', cap', cur', hv0, _⟩
      · rw [hv0] at hv; cases hv
      · rw [hv0] at hv
        simp [Value.ownBlock] at hv
        subst hv
        injection hv0 with e1
        exact h.two _ q1 (by rw [e1, e'])
  generalize setAll F w1 (spF (blkOf y.sa) 0 x.subst) = w2 at h2 ⊢
  -- the states
  have hk3 : ∀ g, (∀ cs : Array Value, w2.heap[g]? ≠ some (Obj.cells cs 42 (0, 0))) → (setAll F w2 (epS y.sl x.states)).heap[g]? = w2.heap[g]? := fun g hg => setAll_other F _ _ _ fun a ha e => by
    obtain ⟨cs2, hc⟩ := h2.epBlk a ha
    rw [e] at hc
    exact hg _ hc
  have hk4 : ∀ {e : TypeId} {size : Nat} {v : Value} {n : Nat} {xs : List Value}, e ≠ 42 → w2.ownsRow base e size v n xs → (setAll F w2 (epS y.sl x.states)).ownsRow base e size v n xs := fun he ho =>
    owned_of_block ho fun g cur _ hc => hk3 g fun cs e' => by rw [hc] at e'; cases e'; exact he rfl
  refine ⟨h2.fro, ?_, hk4 (by decide) h2.defs, hk4 (by decide) h2.subst, hk4 (by decide) h2.nums, ?_, own_eps F y.sl x.states w2 h2.rows h2.apart, h2.apart, h2.two⟩
  · rw [hk3 wb (fun cs e => by rw [h2.box] at e; cases e), h2.box]
    simp [wkCells, rnR]
  · have := hk4 (by decide) h2.states
    simpa [rnR] using this
end
end Go.Proofs.Ytolehoibpnenlab
