/-
  Places renewed where they lie.
-/
import Derived.Test.YtolehoibpnenlabPsE
namespace Go.Proofs.Ytolehoibpnenlab
open Go.RowKit Go.Deep Go.Maps

/-- Addresses and what stands there. -/
def epF (g : Nat) : Nat → List (Int × Int) → List (Addr × Int)
  | _, [] => []
  | i, e :: r => (if e.2 = -1 then [] else [(⟨g, i * 2 + 1, none⟩, e.2)]) ++ epF g (i + 1) r
def epS : List Sr → List St → List (Addr × Int)
  | r :: sl, s :: l => epF (blkOf r.2.1) 0 s.2 ++ epS sl l
  | _, _ => []
def spF (g : Nat) : Nat → List Int → List (Addr × Int)
  | _, [] => []
  | i, p :: r => (⟨g, i, none⟩, p) :: spF g (i + 1) r
def adP (wb : Nat) (x : Rc) (y : Ly) : List (Addr × Int) := (⟨wb, 5, none⟩, x.front) :: (⟨wb, 6, none⟩, x.back) :: (spF (blkOf y.sa) 0 x.subst ++ epS y.sl x.states)
theorem epF_fst (g : Nat) : ∀ (l : List (Int × Int)) (i : Nat), (epF g i l).map (·.1) = eaF g i l
  | [], _ => rfl
  | e :: r, i => by
    rw [epF, eaF, List.map_append, epF_fst g r]
    by_cases h : e.2 = -1 <;> simp [h]
theorem epS_fst : ∀ (sl : List Sr) (l : List St), (epS sl l).map (·.1) = eaS sl l
  | [], _ => by simp [epS, eaS]
  | _ :: _, [] => by simp [epS, eaS]
  | r :: sl, s :: l => by rw [epS, eaS, List.map_append, epF_fst, epS_fst sl l]
theorem spF_fst (g : Nat) : ∀ (l : List Int) (i : Nat), (spF g i l).map (·.1) = (List.range' i l.length).map fun k => ⟨g, k, none⟩
  | [], _ => rfl
  | p :: r, i => by rw [spF, List.map_cons, spF_fst g r, List.length_cons, List.range'_succ, List.map_cons]
theorem adP_fst (wb : Nat) (x : Rc) (y : Ly) : (adP wb x y).map (·.1) = adL wb x y := by
  rw [adP, adL, List.map_cons, List.map_cons, List.map_append, spF_fst, epS_fst, suL, List.range_eq_range']
theorem epF_snd (g : Nat) : ∀ (l : List (Int × Int)) (i : Nat), (epF g i l).map (·.2) = costsL l
  | [], _ => rfl
  | e :: r, i => by
    rw [epF, List.map_append, epF_snd g r]
    by_cases h : e.2 = -1 <;> simp [h, costsL]
theorem epS_snd : ∀ (sl : List Sr) (l : List St), sl.length = l.length → (epS sl l).map (·.2) = costsS l
  | [], [], _ => by simp [epS, costsS]
  | [], _ :: _, h => by simp at h
  | _ :: _, [], h => by simp at h
  | r :: sl, s :: l, h => by rw [epS, List.map_append, epF_snd, epS_snd sl l (by simpa using h), costsS, costsS, List.flatMap_cons]
theorem spF_snd (g : Nat) : ∀ (l : List Int) (i : Nat), (spF g i l).map (·.2) = l
  | [], _ => rfl
  | p :: r, i => by rw [spF, List.map_cons, spF_snd g r]
theorem adP_snd (wb : Nat) (x : Rc) (y : Ly) (h : y.sl.length = x.states.length) : (adP wb x y).map (·.2) = placesL x := by
  rw [adP, placesL, List.map_cons, List.map_cons, List.map_append, spF_snd, epS_snd _ _ h]
/-- Cells written one behind the other. -/
def setAll (F : Int → Int) (w : World) : List (Addr × Int) → World
  | [] => w
  | a :: r => setAll F (w.setCell a.1 (.int .i64 (F a.2))) r
theorem setAll_append (F : Int → Int) : ∀ (l m : List (Addr × Int)) (w : World), setAll F w (l ++ m) = setAll F (setAll F w l) m
  | [], _, _ => rfl
  | a :: r, m, w => by rw [List.cons_append, setAll, setAll, setAll_append F r m]
theorem setAll_other (F : Int → Int) : ∀ (l : List (Addr × Int)) (w : World) (g : Nat), (∀ a ∈ l, a.1.block ≠ g) → (setAll F w l).heap[g]? = w.heap[g]?
  | [], _, _, _ => rfl
  | a :: r, w, g, h => by
    rw [setAll, setAll_other F r _ g (fun b hb => h b (List.mem_cons_of_mem _ hb))]
    exact Below.heap_setCell _ _ _ _ (fun e => h a (by simp) e.symm)
theorem setAll_size (F : Int → Int) : ∀ (l : List (Addr × Int)) (w : World), (setAll F w l).heap.size = w.heap.size
  | [], _ => rfl
  | a :: r, w => by rw [setAll, setAll_size F r]; simp [World.setCell]
theorem cell_set_ne (w : World) (a b : Addr) (v : Value) (hs : a.spot = none) (hb : b.spot = none) (h : a ≠ b) : (w.setCell b v).cell? a = w.cell? a := by
  obtain ⟨ag, ao, asp⟩ := a
  obtain ⟨bg, bo, bsp⟩ := b
  simp only at hs hb
  subst hs; subst hb
  exact World.cell?_setCells_out bg [v] bo w ⟨ag, ao, none⟩ (fun e _ => by
    simp only at e
    subst e
    have : ao ≠ bo := fun e => h (by rw [e])
    simp; omega)
theorem setAll_cell (F : Int → Int) : ∀ (l : List (Addr × Int)) (w : World) (a : Addr), a.spot = none → (∀ b ∈ l, b.1 ≠ a ∧ b.1.spot = none) → (setAll F w l).cell? a = w.cell? a
  | [], _, _, _, _ => rfl
  | b :: r, w, a, hs, h => by
    rw [setAll, setAll_cell F r _ a hs (fun c hc => h c (List.mem_cons_of_mem _ hc))]
    exact cell_set_ne w a b.1 _ hs (h b (by simp)).2 (fun e => (h b (by simp)).1 e.symm)
theorem owned_heap {w w' : World} {base : Nat} {e : TypeId} {size : Nat} {v : Value} {n : Nat} {xs : List Value} (h : w.ownsRow base e size v n xs) (he : w'.heap = w.heap) : w'.ownsRow base e size v n xs :=
  owned_of_block h fun g _ _ _ => by rw [he]
theorem itRow_set (pre : List Int) (p q : Int) (r : List Int) : (itRow (pre ++ p :: r)).set pre.length (.int .i64 q) = itRow (pre ++ q :: r) := by
  simp [itRow]
theorem own_sp (F : Int → Int) {base g n c : Nat} : ∀ (l pre : List Int) (w : World), w.ownsRow base 3 1 (.slice (some ⟨g, 0, none⟩) n c) n (itRow (pre ++ l)) →
    (setAll F w (spF g pre.length l)).ownsRow base 3 1 (.slice (some ⟨g, 0, none⟩) n c) n (itRow (pre ++ l.map F))
  | [], pre, w, h => by simpa [spF, setAll] using h
  | p :: r, pre, w, h => by
    have h1 := own_set h pre.length (.int .i64 (F p))
    rw [itRow_set] at h1
    have h2 := own_sp F r (pre ++ [F p]) (w.setCell ⟨g, pre.length, none⟩ (.int .i64 (F p))) (by rw [List.append_assoc]; exact h1)
    rw [spF, setAll]
    rw [List.append_assoc, List.length_append] at h2
    exact h2
theorem pcRow_set (pre : List (Int × Int)) (e : Int × Int) (q : Int) (r : List (Int × Int)) : (pcRow (pre ++ e :: r)).set (pre.length * 2 + 1) (.int .i64 q) = pcRow (pre ++ (e.1, q) :: r) := by
  unfold pcRow
  rw [List.flatMap_append, List.flatMap_append, List.flatMap_cons, List.flatMap_cons, List.set_append, if_neg (by have := pcRow_len pre; unfold pcRow at this; rw [this]; omega)]
  have := pcRow_len pre
  unfold pcRow at this
  rw [this, show pre.length * 2 + 1 - pre.length * 2 = 1 by omega]
  simp [pcCells]
def rnE (F : Int → Int) (e : Int × Int) : Int × Int := (e.1, if e.2 = -1 then -1 else F e.2)
theorem own_ep (F : Int → Int) {base g n c : Nat} : ∀ (l pre : List (Int × Int)) (w : World), w.ownsRow base 42 2 (.slice (some ⟨g, 0, none⟩) n c) n (pcRow (pre ++ l)) →
    (setAll F w (epF g pre.length l)).ownsRow base 42 2 (.slice (some ⟨g, 0, none⟩) n c) n (pcRow (pre ++ l.map (rnE F)))
  | [], pre, w, h => by simpa [epF, setAll] using h
  | e :: r, pre, w, h => by
    rw [epF]
    by_cases hc : e.2 = -1
    · rw [if_pos hc, List.nil_append]
      have h2 := own_ep F r (pre ++ [e]) w (by rw [List.append_assoc]; exact h)
      rw [List.append_assoc, List.length_append] at h2
      rw [List.map_cons, show rnE F e = e by rw [rnE, if_pos hc, ← hc]]
      exact h2
    · rw [if_neg hc, List.singleton_append, setAll]
      have h1 := own_set h (pre.length * 2 + 1) (.int .i64 (F e.2))
      rw [pcRow_set] at h1
      have h2 := own_ep F r (pre ++ [rnE F e]) (w.setCell ⟨g, pre.length * 2 + 1, none⟩ (.int .i64 (F e.2))) (by rw [List.append_assoc, rnE, if_neg hc]; exact h1)
      rw [List.append_assoc, List.length_append] at h2
      rw [List.map_cons]
      exact h2
theorem epF_block (g : Nat) : ∀ (l : List (Int × Int)) (i : Nat), ∀ a ∈ epF g i l, a.1.block = g ∧ a.1.spot = none ∧ i * 2 < a.1.off
  | [], _, a, ha => by simp [epF] at ha
  | e :: r, i, a, ha => by
    rw [epF, List.mem_append] at ha
    rcases ha with ha | ha
    · by_cases h : e.2 = -1
      · simp [h] at ha
      · simp [h] at ha; subst ha; exact ⟨rfl, rfl, by simp⟩
    · obtain ⟨h1, h2, h3⟩ := epF_block g r (i + 1) a ha
      exact ⟨h1, h2, by omega⟩
theorem spF_block (g : Nat) : ∀ (l : List Int) (i : Nat), ∀ a ∈ spF g i l, a.1.block = g ∧ a.1.spot = none ∧ i ≤ a.1.off
  | [], _, a, ha => by simp [spF] at ha
  | p :: r, i, a, ha => by
    rw [spF, List.mem_cons] at ha
    rcases ha with rfl | ha
    · exact ⟨rfl, rfl, Nat.le_refl _⟩
    · obtain ⟨h1, h2, h3⟩ := spF_block g r (i + 1) a ha
      exact ⟨h1, h2, by omega⟩
/-- Which blocks the states' places lie in. -/
theorem epS_block : ∀ (sl : List Sr) (l : List St), ∀ a ∈ epS sl l, ∃ (i : Nat) (r : Sr) (s : St), sl[i]? = some r ∧ l[i]? = some s ∧ s.2 ≠ [] ∧ a.1.block = blkOf r.2.1 ∧ a.1.spot = none
  | [], _, a, ha => by simp [epS] at ha
  | _ :: _, [], a, ha => by simp [epS] at ha
  | r :: sl, s :: l, a, ha => by
    rw [epS, List.mem_append] at ha
    rcases ha with ha | ha
    · obtain ⟨h1, h2, _⟩ := epF_block _ _ _ a ha
      refine ⟨0, r, s, rfl, rfl, fun e => ?_, h1, h2⟩
      rw [e] at ha; simp [epF] at ha
    · obtain ⟨i, r', s', h1, h2, h3⟩ := epS_block sl l a ha
      exact ⟨i + 1, r', s', h1, h2, h3⟩
theorem own_block {w : World} {base : Nat} {e : TypeId} {size : Nat} {ao : Option Addr} {n c : Nat} {xs : List Value} (h : w.ownsRow base e size (.slice ao n c) n xs) (hn : 0 < n) : ∃ cs, ao = some ⟨blkOf ao, 0, none⟩ ∧ base ≤ blkOf ao ∧ w.heap[blkOf ao]? = some (.cells cs e (0, 0)) := by
  rcases h.2 with ⟨hv, h0⟩ | ⟨g', cap', cur, hv, hb', hg', _⟩
  · omega
  · cases hv; exact ⟨_, rfl, hb', hg'⟩
/-- Whatever stands apart of a work's places. -/
theorem WkAt.places {w : World} {base wb : Nat} {x : Rc} {vs : List Int} {y : Ly} (h : WkAt w base wb x vs y) (hs : 0 < x.subst.length) : ∀ a ∈ adP wb x y, a.1.spot = none ∧ base ≤ a.1.block ∧ (a.1.block = wb ∨ a.1.block = blkOf y.sa ∨ ∃ cs, w.heap[a.1.block]? = some (.cells cs 42 (0, 0))) := by
  intro a ha
  rw [adP] at ha
  rcases List.mem_cons.1 ha with rfl | ha
  · exact ⟨rfl, h.fro, .inl rfl⟩
  rcases List.mem_cons.1 ha with rfl | ha
  · exact ⟨rfl, h.fro, .inl rfl⟩
  rcases List.mem_append.1 ha with ha | ha
  · obtain ⟨h1, h2, _⟩ := spF_block _ _ _ a ha
    obtain ⟨cs, _, q2, _⟩ := own_block h.subst hs
    exact ⟨h2, by rw [h1]; exact q2, .inr (.inl h1)⟩
  · obtain ⟨i, r, s, h1, h2, h3, h4, h5⟩ := epS_block _ _ a ha
    obtain ⟨k1, k2, k3, k4⟩ := h.rows.2 i r s h1 h2
    obtain ⟨cs, q1, q2, q3⟩ := own_block k4 (by rw [k2]; exact List.length_pos_iff.2 h3)
    exact ⟨h5, by rw [h4]; exact q2, .inr (.inr ⟨cs, by rw [h4]; exact q3⟩)⟩
theorem WkAt.subBlk {w : World} {base wb : Nat} {x : Rc} {vs : List Int} {y : Ly} (h : WkAt w base wb x vs y) (hs : 0 < x.subst.length) : ∃ cs, y.sa = some ⟨blkOf y.sa, 0, none⟩ ∧ w.heap[blkOf y.sa]? = some (.cells cs 3 (0, 0)) := by
  obtain ⟨cs, q1, _, q3⟩ := own_block h.subst hs
  exact ⟨cs, q1, q3⟩
/-- The states' part. -/
theorem own_eps (F : Int → Int) {base : Nat} : ∀ (sl : List Sr) (l : List St) (w : World), Own2 w base sl l → Dj sl → Own2 (setAll F w (epS sl l)) base sl (l.map fun s => (s.1, s.2.map (rnE F)))
  | [], l, w, h, _ => by
    have : l = [] := List.length_eq_zero_iff.1 h.1.symm
    subst this
    simpa [epS, setAll] using h
  | r :: sl, [], w, h, _ => by have := h.1; simp at this
  | r :: sl, s :: l, w, h, hd => by
    rw [epS, setAll_append]
    obtain ⟨k1, k2, k3, k4⟩ := h.2 0 r s rfl rfl
    have htl : Own2 w base sl l := ⟨by have := h.1; simpa using this, fun i r' s' hi hs => h.2 (i + 1) r' s' hi hs⟩
    have hdt : Dj sl := fun i j r1 r2 a hij h1 h2 h3 => hd (i + 1) (j + 1) r1 r2 a (by omega) h1 h2 h3
    -- the first row
    have hfirst : (setAll F w (epF (blkOf r.2.1) 0 s.2)).ownsRow base 42 2 (.slice r.2.1 r.2.2.1 r.2.2.2) r.2.2.1 (pcRow (s.2.map (rnE F))) := by
      by_cases h0 : s.2 = []
      · rw [h0] at k4 ⊢; simpa [epF, setAll] using k4
      · obtain ⟨cs, q1, _, _⟩ := own_block k4 (by rw [k2]; exact List.length_pos_iff.2 h0)
        obtain ⟨g, hg⟩ : ∃ g, blkOf r.2.1 = g := ⟨_, rfl⟩
        rw [hg] at q1 ⊢
        rw [q1] at k4 ⊢
        exact own_ep F s.2 [] w (by simpa using k4)
    -- the others stay
    have hrest : Own2 (setAll F w (epF (blkOf r.2.1) 0 s.2)) base sl l := by
      refine ⟨htl.1, fun i r' s' hi hs => ?_⟩
      obtain ⟨p1, p2, p3, p4⟩ := htl.2 i r' s' hi hs
      refine ⟨p1, p2, p3, owned_of_block p4 fun g cur hg hc => setAll_other F _ _ _ fun a ha => ?_⟩
      obtain ⟨b1, _, _⟩ := epF_block _ _ _ a ha
      rw [b1]
      intro hgb
      have h0 : s.2 ≠ [] := fun e => by rw [e] at ha; simp [epF] at ha
      obtain ⟨cs, q1, _, _⟩ := own_block k4 (by rw [k2]; exact List.length_pos_iff.2 h0)
      rcases p4.2 with ⟨hv, _⟩ | ⟨g', cap', cur', hv, _, hg', _⟩
      · rw [hv] at hg; cases hg
      · rw [hv] at hg; simp [Value.ownBlock] at hg; subst hg
        injection hv with e1
        exact hd 0 (i + 1) r r' ⟨blkOf r.2.1, 0, none⟩ (by omega) rfl hi q1 (by rw [e1, hgb])
    have ih := own_eps F sl l _ hrest hdt
    refine ⟨by have := h.1; simpa using this, fun i r' s' hi hs => ?_⟩
    cases i with
    | zero =>
      simp at hi hs
      subst hi; subst hs
      refine ⟨k1, by simp [k2], by simpa using k3, owned_of_block hfirst fun g cur hg hc => setAll_other F _ _ _ fun a ha => ?_⟩
      obtain ⟨j, r2, s2, e1, e2, e3, e4, _⟩ := epS_block _ _ a ha
      rw [e4]
      intro hgb
      obtain ⟨p1, p2, p3, p4⟩ := htl.2 j r2 s2 e1 e2
      obtain ⟨cs2, q1, _, _⟩ := own_block p4 (by rw [p2]; exact List.length_pos_iff.2 e3)
      rcases hfirst.2 with ⟨hv, _⟩ | ⟨g', cap', cur', hv, _, hg', _⟩
      · rw [hv] at hg; cases hg
      · rw [hv] at hg; simp [Value.ownBlock] at hg; subst hg
        injection hv with e5
        exact hd 0 (j + 1) r r2 ⟨g', 0, none⟩ (by omega) rfl e1 e5 (by rw [q1, hgb])
    | succ i =>
      simp at hi hs
      obtain ⟨s0, s1, hs0, rfl⟩ := hs
      exact ih.2 i r' _ hi (by simp [hs0])
end Go.Proofs.Ytolehoibpnenlab
