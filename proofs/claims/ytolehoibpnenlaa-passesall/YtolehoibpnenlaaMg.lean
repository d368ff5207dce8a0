/-
  Drop: a state is taken away step by step. And what follows.
-/
import Derived.Test.YtolehoibpnenlaaMk
import Derived.Test.YtolehoibpnenlaaMr
namespace Go.Proofs.Ytolehoibpnenlaa

theorem woE_snoc (g : Int) (l : List (Int × Int)) (e : Int × Int) : woE g (l ++ [e]) = woE g l ++ (if e.1 = g then [] else [(if g < e.1 then e.1 - 1 else e.1, e.2)]) := by
  by_cases h : e.1 = g <;> simp [woE, h]
theorem woE_len (g : Int) (l : List (Int × Int)) : (woE g l).length ≤ l.length := by
  rw [woE, List.length_map]
  exact List.length_filter_le _ _
theorem takeB_snoc (g : Nat) (l : List St) {i : Nat} {s : St} (h : l[i]? = some s) : takeB g (l.take (i + 1)) = takeB g (l.take i) ++ (if i = g then [] else [(s.1, woE g s.2)]) := by
  obtain ⟨hi, e⟩ := List.getElem?_eq_some_iff.1 h
  have hl : (l.take i).length = i := by simp; omega
  rw [takeB, takeB, List.take_succ_eq_append_getElem hi, e]
  rcases Nat.lt_trichotomy g i with hg | hg | hg
  · rw [List.eraseIdx_append_of_lt_length (by omega), if_neg (by omega), List.map_append]
    rfl
  · subst hg
    rw [List.eraseIdx_append_of_length_le (by omega), if_pos rfl, hl, Nat.sub_self, List.eraseIdx_of_length_le (l := l.take g) (by omega)]
    simp
  · rw [List.eraseIdx_append_of_length_le (by omega), if_neg (by omega), hl, List.eraseIdx_of_length_le (l := l.take i) (by omega), List.eraseIdx_of_length_le (l := [s]) (by simp; omega), List.map_append]
    rfl
theorem takeB_zero (g : Nat) (l : List St) : takeB g (l.take 0) = [] := by simp [takeB]
theorem takeB_all (g : Nat) (l : List St) {i : Nat} (h : l.length ≤ i) : takeB g (l.take i) = takeB g l := by rw [List.take_of_length_le h]
theorem takeB_len (g : Nat) (l : List St) (h : g < l.length) : (takeB g l).length = l.length - 1 := by
  rw [takeB, List.length_map, List.length_eraseIdx_of_lt h]
theorem takeB_le (g : Nat) (l : List St) : (takeB g l).length ≤ l.length := by
  rw [takeB, List.length_map]
  exact List.length_eraseIdx_le l g
end Go.Proofs.Ytolehoibpnenlaa
namespace Go.Proofs.Ytolehoibpnenlaa

theorem takeB_edges (g : Nat) (l : List St) (n : Nat) (h : ∀ s ∈ l, s.2.length ≤ n) : ∀ s ∈ takeB g l, s.2.length ≤ n := fun s hs => by
  rw [takeB, List.mem_map] at hs
  obtain ⟨t, ht, rfl⟩ := hs
  exact Nat.le_trans (woE_len _ _) (h t (List.mem_of_mem_eraseIdx ht))
theorem dropG_le (f : List Bool) : ∀ (k : Nat) (l : List St), (dropG f k l).length ≤ l.length
  | 0, _ => Nat.le_refl _
  | k + 1, l => by
    rw [dropG]
    refine Nat.le_trans (dropG_le f k _) ?_
    split
    · exact Nat.le_refl _
    · exact takeB_le k l
theorem dropG_edges (f : List Bool) (n : Nat) : ∀ (k : Nat) (l : List St), (∀ s ∈ l, s.2.length ≤ n) → ∀ s ∈ dropG f k l, s.2.length ≤ n
  | 0, _, h => h
  | k + 1, l, h => by
    rw [dropG]
    refine dropG_edges f n k _ ?_
    split
    · exact h
    · exact takeB_edges k l n h
theorem drop_fit {x : Rc} (h : rightR x = true) (hf : ∀ d ∈ x.defs, InR d.num) : Fit (dropB x) := by
  have h1 := (right_defs h).1
  have h2 := (right_subst h).1
  have h3 := (right_states h).1
  have h4 := dropG_le (foundB x) x.states.length x.states
  exact ⟨hf, by show x.defs.length ≤ _; omega, by show x.subst.length ≤ _; omega, by show (dropG _ _ _).length ≤ _; omega⟩
theorem drop_edges {x : Rc} (h : rightR x = true) : ∀ s ∈ (dropB x).states, s.2.length ≤ 100 := dropG_edges _ 100 _ _ (right_edges h)
end Go.Proofs.Ytolehoibpnenlaa
namespace Go.Proofs.Ytolehoibpnenlaa

theorem edges_low {ns nd a b : Int} (h : a ≤ b) : ∀ {l : List (Int × Int)}, edgesB ns nd b l = true → edgesB ns nd a l = true
  | [], _ => rfl
  | e :: r, hl => by
    simp only [edgesB, Bool.and_eq_true, inI_iff] at hl ⊢
    exact ⟨⟨⟨by omega, hl.1.1.2⟩, hl.1.2⟩, hl.2⟩
theorem edges_wo {ns nd g : Int} (hg : g ≤ ns - 1) : ∀ (l : List (Int × Int)) (least : Int), edgesB ns nd least l = true → edgesB (ns - 1) nd (if g < least then least - 1 else least) (woE g l) = true
  | [], _, _ => rfl
  | e :: r, least, h => by
    simp only [edgesB, Bool.and_eq_true, inI_iff] at h
    obtain ⟨⟨⟨h1, h2⟩, h3⟩, h4⟩ := h
    have ih := edges_wo hg r _ h4
    by_cases he : e.1 = g
    · have e1 : woE g (e :: r) = woE g r := by simp [woE, he]
      rw [e1]
      refine edges_low ?_ ih
      rw [if_neg (by omega), if_pos (by omega)]
      omega
    · have e1 : woE g (e :: r) = (if g < e.1 then e.1 - 1 else e.1, e.2) :: woE g r := by simp [woE, he]
      rw [e1]
      simp only [edgesB, Bool.and_eq_true, inI_iff]
      refine ⟨⟨⟨?_, ?_⟩, h3⟩, ?_⟩
      · split <;> split <;> omega
      · split <;> omega
      · by_cases h5 : g < e.1
        · rw [if_pos (by omega)] at ih
          rw [if_pos h5]
          rw [show e.1 - 1 + 1 = e.1 + 1 - 1 by omega]
          exact ih
        · rw [if_neg (by omega)] at ih
          rw [if_neg h5]
          exact ih
/-- States that a right recurrence may have. -/
def SOk (nd : Int) (l : List St) : Prop := l.length ≤ 9 ∧ ∀ s ∈ l, stateB l.length nd s = true
theorem takeB_ok {nd : Int} {l : List St} (h : SOk nd l) {g : Nat} (hg : g < l.length) : SOk nd (takeB g l) := by
  have hl := takeB_len g l hg
  refine ⟨by have := h.1; omega, fun s hs => ?_⟩
  rw [takeB, List.mem_map] at hs
  obtain ⟨t, ht, rfl⟩ := hs
  have h1 := h.2 t (List.mem_of_mem_eraseIdx ht)
  simp only [stateB, Bool.and_eq_true] at h1 ⊢
  refine ⟨h1.1, ?_⟩
  have h2 := edges_wo (g := (g : Int)) (by omega) t.2 (-1) h1.2
  rw [if_neg (by omega)] at h2
  rw [show ((takeB g l).length : Int) = (l.length : Int) - 1 by omega]
  exact h2
theorem right_sok {x : Rc} (h : rightR x = true) : SOk x.defs.length x.states := right_states h
theorem right_with {x : Rc} (h : rightR x = true) {l : List St} (hl : SOk x.defs.length l) : rightR { x with states := l } = true := by
  simp only [rightR, substR, endsR, statesR, bandR, Bool.and_eq_true] at h ⊢
  refine ⟨h.1, h.2.1, h.2.2.1, h.2.2.2.1, ?_, ?_⟩
  · exact decide_eq_true hl.1
  · exact List.all_eq_true.2 hl.2
theorem dropG_ok {nd : Int} (f : List Bool) : ∀ (k : Nat) (l : List St), k ≤ l.length → SOk nd l → SOk nd (dropG f k l)
  | 0, _, _, h => h
  | k + 1, l, hk, h => by
    rw [dropG]
    split
    · exact dropG_ok f k l (by omega) h
    · exact dropG_ok f k _ (by rw [takeB_len k l (by omega)]; omega) (takeB_ok h (by omega))
theorem drop_right {x : Rc} (h : rightR x = true) : rightR (dropB x) = true := right_with h (dropG_ok _ _ _ (Nat.le_refl _) (right_sok h))
theorem pruneG_ok {nd : Int} (vs : List Int) : ∀ (k : Nat) (l : List St), k ≤ l.length → SOk nd l → SOk nd (pruneG vs k l)
  | 0, _, _, h => h
  | k + 1, l, hk, h => by
    rw [pruneG]
    split
    · exact pruneG_ok vs k _ (by rw [takeB_len k l (by omega)]; omega) (takeB_ok h (by omega))
    · exact pruneG_ok vs k l (by omega) h
theorem prune_right {x : Rc} {vs : List Int} (h : rightR x = true) : rightR (pruneB x vs) = true := right_with h (pruneG_ok _ _ _ (Nat.le_refl _) (right_sok h))
end Go.Proofs.Ytolehoibpnenlaa
namespace Go.Proofs.Ytolehoibpnenlaa

/-- For which n from 0 on a + b n is above 0. -/
def aboveB (a b : Int) : Int × Int :=
  if b = 0 ∧ 0 < a then (0, -2) else if b = 0 then (0, -1) else if 0 < b ∧ 0 < a then (0, -2) else if 0 < b then (-a / b + 1, -2) else if a ≤ 0 then (0, -1) else (0, (a - 1) / -b)
def stepN (g : Int × Int) (s : Int × Int) (t : Int × Int) : Int × Int :=
  (max s.1 (aboveB (t.1 - g.1) (t.2 - g.2)).1, if (aboveB (t.1 - g.1) (t.2 - g.2)).2 ≠ -2 ∧ (s.2 = -2 ∨ (aboveB (t.1 - g.1) (t.2 - g.2)).2 < s.2) then (aboveB (t.1 - g.1) (t.2 - g.2)).2 else s.2)
def neverD (g : Int × Int) (tw : List (Int × Int)) : Bool := decide (tw ≠ []) && (decide ((tw.foldl (stepN g) (0, -2)).2 ≠ -2) && decide ((tw.foldl (stepN g) (0, -2)).2 < (tw.foldl (stepN g) (0, -2)).1))
def Few (g : Int × Int) (tw : List (Int × Int)) : Prop := ∀ t ∈ tw, -1152921504606846976 ≤ t.1 - g.1 ∧ t.1 - g.1 ≤ 1152921504606846976
theorem div_le {a b : Int} (ha : 0 ≤ a) (hb : 0 < b) : 0 ≤ a / b ∧ a / b ≤ a := by
  refine ⟨Int.ediv_nonneg ha (by omega), ?_⟩
  exact Int.ediv_le_self b ha
theorem step_full {g s : Int × Int} (t : Int × Int) (h1 : 0 ≤ s.1) (h2 : s.2 = -1) : 0 ≤ (stepN g s t).1 ∧ (stepN g s t).2 = -1 := by
  refine ⟨by simp only [stepN]; omega, ?_⟩
  simp only [stepN]
  split
  · rename_i h
    exfalso
    have : -1 ≤ (aboveB (t.1 - g.1) (t.2 - g.2)).2 ∨ (aboveB (t.1 - g.1) (t.2 - g.2)).2 = -2 := by
      simp only [aboveB]
      split
      · right; rfl
      · split
        · left; simp
        · split
          · right; rfl
          · split
            · right; rfl
            · split
              · left; simp
              · left
                have := (div_le (a := t.1 - g.1 - 1) (b := -(t.2 - g.2)) (by omega) (by omega)).1
                omega
    omega
  · exact h2
theorem fold_full (g : Int × Int) : ∀ (tw : List (Int × Int)) (s : Int × Int), 0 ≤ s.1 → s.2 = -1 → (tw.foldl (stepN g) s).2 = -1 ∧ 0 ≤ (tw.foldl (stepN g) s).1
  | [], s, h1, h2 => ⟨h2, h1⟩
  | t :: r, s, h1, h2 => by
    obtain ⟨k1, k2⟩ := step_full (g := g) t h1 h2
    exact fold_full g r _ k1 k2
theorem best_fold (g : Int × Int) : ∀ (tw : List (Int × Int)) (up fr : Int) (s : Int × Int), Few g tw → -1 ≤ up → up ≤ 1152921504606846976 → s.1 = up + 1 → (s.2 = -2 ∧ fr = 9223372036854775807 ∨ 0 ≤ s.2 ∧ fr = s.2 + 1 ∧ s.2 ≤ 1152921504606846976) →
    bestG g tw up fr = (decide ((tw.foldl (stepN g) s).2 ≠ -2) && decide ((tw.foldl (stepN g) s).2 < (tw.foldl (stepN g) s).1))
  | [], up, fr, s, _, h1, h2, h3, h4 => by
    rw [bestG, List.foldl_nil]
    rcases h4 with ⟨h5, h6⟩ | ⟨h5, h6, _⟩
    · rw [h5, decide_eq_false (by omega)]; rfl
    · rw [decide_eq_true (show s.2 ≠ -2 by omega), Bool.true_and]
      rw [Bool.eq_iff_iff]
      simp only [decide_eq_true_eq]
      omega
  | t :: r, up, fr, s, hf, h1, h2, h3, h4 => by
    have hf' : Few g r := fun z hz => hf z (List.mem_cons_of_mem _ hz)
    obtain ⟨f1, f2⟩ := hf t (by simp)
    rw [bestG, List.foldl_cons]
    generalize ha : t.1 - g.1 = a at f1 f2 ⊢
    generalize hb : t.2 - g.2 = b
    by_cases c1 : a ≤ 0 ∧ b ≤ 0
    · rw [if_pos c1]
      have hs : (stepN g s t).2 = -1 ∧ 0 ≤ (stepN g s t).1 := by
        have e : aboveB a b = (0, -1) := by
          rw [aboveB]
          by_cases e0 : b = 0
          · rw [if_neg (by omega), if_pos e0]
          · rw [if_neg (by omega), if_neg e0, if_neg (by omega), if_neg (by omega), if_pos c1.1]
        simp only [stepN, ha, hb, e]
        refine ⟨?_, by omega⟩
        rw [if_pos]
        refine ⟨by decide, ?_⟩
        rcases h4 with h | h
        · exact .inl h.1
        · right; omega
      obtain ⟨k1, k2⟩ := fold_full g r _ hs.2 hs.1
      rw [k1, decide_eq_true (show (-1 : Int) ≠ -2 by decide), decide_eq_true (by omega)]
      rfl
    · rw [if_neg c1]
      by_cases c2 : a ≤ 0
      · rw [if_pos c2]
        have hbp : 0 < b := by omega
        have hd := div_le (a := -a) (b := b) (by omega) hbp
        have e : aboveB a b = (-a / b + 1, -2) := by
          rw [aboveB, if_neg (by omega), if_neg (by omega), if_neg (by omega), if_pos hbp]
        refine best_fold g r _ fr _ hf' (by omega) (by omega) ?_ ?_
        · simp only [stepN, ha, hb, e]; omega
        · simp only [stepN, ha, hb, e]
          rw [if_neg (by simp)]
          exact h4
      · rw [if_neg c2]
        by_cases c3 : b < 0
        · rw [if_pos c3]
          have hd := div_le (a := a - 1) (b := -b) (by omega) (by omega)
          have e : aboveB a b = (0, (a - 1) / -b) := by
            rw [aboveB, if_neg (by omega), if_neg (by omega), if_neg (by omega), if_neg (by omega), if_neg c2]
          refine best_fold g r up _ _ hf' h1 h2 ?_ ?_
          · simp only [stepN, ha, hb, e]; omega
          · simp only [stepN, ha, hb, e]
            right
            split
            · rename_i h
              refine ⟨hd.1, ?_, by omega⟩
              rcases h4 with ⟨h5, h6⟩ | ⟨h5, h6, _⟩
              · omega
              · omega
            · rename_i h
              rcases h4 with ⟨h5, h6⟩ | ⟨h5, h6, h7⟩
              · exact absurd ⟨by omega, .inl h5⟩ h
              · refine ⟨h5, ?_, h7⟩
                have : ¬ (a - 1) / -b < s.2 := fun hh => h ⟨by omega, .inr hh⟩
                omega
        · rw [if_neg c3]
          have e : aboveB a b = (0, -2) := by
            rw [aboveB]
            by_cases e0 : b = 0
            · rw [if_pos ⟨e0, by omega⟩]
            · rw [if_neg (by omega), if_neg e0, if_pos (by omega)]
          refine best_fold g r up fr _ hf' h1 h2 ?_ ?_
          · simp only [stepN, ha, hb, e]; omega
          · simp only [stepN, ha, hb, e]
            rw [if_neg (by simp)]
            exact h4
theorem never_same {g : Int × Int} {tw : List (Int × Int)} (h : Few g tw) : neverD g tw = neverB g tw := by
  rw [neverB, best_fold g tw (-1) _ (0, -2) h (by decide) (by decide) rfl (.inl ⟨rfl, rfl⟩), neverD]
  cases tw with
  | nil => simp
  | cons a r => simp
theorem edges_rise {ns nd : Int} : ∀ {l : List (Int × Int)} {least : Int}, edgesB ns nd least l = true → (∀ e ∈ l, least ≤ e.1 ∧ e.1 ≤ ns - 1) ∧ l.Pairwise (fun a b => a.1 < b.1)
  | [], _, _ => ⟨fun e he => by simp at he, .nil⟩
  | e :: r, least, h => by
    simp only [edgesB, Bool.and_eq_true, inI_iff] at h
    obtain ⟨⟨⟨h1, h2⟩, _⟩, h4⟩ := h
    obtain ⟨k1, k2⟩ := edges_rise h4
    refine ⟨fun z hz => ?_, List.pairwise_cons.2 ⟨fun z hz => by have := (k1 z hz).1; omega, k2⟩⟩
    rcases List.mem_cons.1 hz with rfl | hz
    · exact ⟨h1, h2⟩
    · have := k1 z hz; omega
theorem find_edge : ∀ {l : List (Int × Int)}, l.Pairwise (fun a b => a.1 < b.1) → ∀ {u : Int} {e : Int × Int}, (l.find? (fun e => decide (e.1 = u)) = some e ↔ e ∈ l ∧ e.1 = u)
  | [], _, u, e => by simp
  | a :: r, h, u, e => by
    obtain ⟨h1, h2⟩ := List.pairwise_cons.1 h
    rw [List.find?_cons]
    by_cases ha : a.1 = u
    · rw [decide_eq_true ha]
      simp only [Option.some.injEq, List.mem_cons]
      constructor
      · rintro rfl; exact ⟨.inl rfl, ha⟩
      · rintro ⟨rfl | he, hu⟩
        · rfl
        · have := h1 e he; omega
    · rw [decide_eq_false ha]
      simp only [List.mem_cons]
      rw [find_edge h2]
      constructor
      · rintro ⟨h3, h4⟩; exact ⟨.inr h3, h4⟩
      · rintro ⟨rfl | he, hu⟩
        · exact absurd hu ha
        · exact ⟨he, hu⟩
theorem sorted_ext : ∀ {A B : List Int}, A.Pairwise (· < ·) → B.Pairwise (· < ·) → (∀ u, u ∈ A ↔ u ∈ B) → A = B
  | [], [], _, _, _ => rfl
  | [], b :: B, _, _, h => by have := (h b).2 (by simp); simp at this
  | a :: A, [], _, _, h => by have := (h a).1 (by simp); simp at this
  | a :: A, b :: B, hA, hB, h => by
    obtain ⟨a1, a2⟩ := List.pairwise_cons.1 hA
    obtain ⟨b1, b2⟩ := List.pairwise_cons.1 hB
    have hab : a = b := by
      rcases List.mem_cons.1 ((h a).1 (by simp)) with e | e
      · exact e
      · rcases List.mem_cons.1 ((h b).2 (by simp)) with e' | e'
        · exact e'.symm
        · have := b1 a e; have := a1 b e'; omega
    subst hab
    congr 1
    refine sorted_ext a2 b2 fun u => ⟨fun hu => ?_, fun hu => ?_⟩
    · rcases List.mem_cons.1 ((h u).1 (List.mem_cons_of_mem _ hu)) with e | e
      · have := a1 u hu; omega
      · exact e
    · rcases List.mem_cons.1 ((h u).2 (List.mem_cons_of_mem _ hu)) with e | e
      · have := b1 u hu; omega
      · exact e
/-- A state's edges rise, and lie within. -/
theorem sok_rise {nd : Int} {l : List St} (h : SOk nd l) (s : Nat) : (∀ e ∈ (l.getD s (0, [])).2, -1 ≤ e.1 ∧ e.1 ≤ (l.length : Int) - 1) ∧ (l.getD s (0, [])).2.Pairwise (fun a b => a.1 < b.1) := by
  rw [List.getD_eq_getElem?_getD]
  cases hs : l[s]? with
  | none => exact ⟨fun e he => by simp at he, .nil⟩
  | some t =>
    have h1 := h.2 t (List.mem_of_getElem? hs)
    simp only [stateB, Bool.and_eq_true] at h1
    exact edges_rise h1.2
theorem edgeB_iff {nd : Int} {l : List St} (h : SOk nd l) {u : Int} {s : Nat} {e : Int × Int} : edgeB l u s = some e ↔ e ∈ (l.getD s (0, [])).2 ∧ e.1 = u := by
  rw [edgeB, Int.toNat_natCast]
  exact find_edge (sok_rise h s).2
theorem edgeB_has {nd : Int} {l : List St} (h : SOk nd l) {u : Int} {s : Nat} : (edgeB l u s).isSome = true ↔ u ∈ ((l.getD s (0, [])).2).map (·.1) := by
  rw [Option.isSome_iff_exists, List.mem_map]
  exact ⟨fun ⟨e, he⟩ => ⟨e, (edgeB_iff h).1 he⟩, fun ⟨e, he⟩ => ⟨e, (edgeB_iff h).2 he⟩⟩
theorem others_mem {l : List St} {s : Nat} {u : Int} : u ∈ (othersB l s).map (·.1) ↔ u ∈ ((l.getD s (0, [])).2).map (·.1) ∧ u ≠ s := by
  simp only [othersB, List.mem_map, List.mem_filter, decide_eq_true_eq]
  constructor
  · rintro ⟨e, ⟨h1, h2⟩, rfl⟩; exact ⟨⟨e, h1, rfl⟩, h2⟩
  · rintro ⟨⟨e, h1, rfl⟩, h2⟩; exact ⟨e, ⟨h1, h2⟩, rfl⟩
theorem others_rise {nd : Int} {l : List St} (h : SOk nd l) (s : Nat) : ((othersB l s).map (·.1)).Pairwise (· < ·) := by
  rw [List.pairwise_map]
  exact ((sok_rise h s).2).filter _
/-- What a third state says of two. -/
def thirdD (vs : List Int) (l : List St) (s t : Nat) (u : Int) : Bool :=
  decide (u = s) || decide (u = t) || (((edgeB l u s).isSome == (edgeB l u t).isSome) && (decide (u < 0) || leadO vs l s t u.toNat))
/-- The document's twins. -/
def twD (vs : List Int) (l : List St) (s t : Nat) : Bool :=
  decide (s ≠ t) && ((gapB vs l s).isSome && ((gapB vs l t).isSome && (decide ((l.getD s (0, [])).1 = (l.getD t (0, [])).1) && ((edgeB l t s).isNone && ((edgeB l s t).isNone && (List.range (l.length + 1)).all fun k => thirdD vs l s t ((k : Int) - 1))))))
theorem twin_same {nd : Int} {vs : List Int} {l : List St} (h : SOk nd l) {s t : Nat} (hs : (gapB vs l s).isSome = true) (ht : t < l.length) : (if twD vs l s t then gapB vs l t else none) = twinB vs l s t := by
  rw [twinB]
  cases hg : gapB vs l t with
  | none => simp
  | some g =>
    simp only
    by_cases c : t ≠ s ∧ (l.getD t (0, [])).1 = (l.getD s (0, [])).1 ∧ comeB l s t = true ∧ leadA vs l s t = true
    · rw [if_pos c, if_pos]
      obtain ⟨c1, c2, c3, c4⟩ := c
      rw [comeB, decide_eq_true_eq] at c3
      have hm : ∀ u : Int, (u ∈ ((l.getD s (0, [])).2).map (·.1) ∧ u ≠ s) ↔ (u ∈ ((l.getD t (0, [])).2).map (·.1) ∧ u ≠ t) := fun u => by rw [← others_mem, ← others_mem, c3]
      simp only [twD, Bool.and_eq_true, decide_eq_true_eq, hs, hg, Option.isSome_some, true_and, List.all_eq_true, List.mem_range]
      refine ⟨Ne.symm c1, c2.symm, ?_, ?_, fun k hk => ?_⟩
      · rw [Option.isNone_iff_eq_none, ← Option.not_isSome_iff_eq_none, edgeB_has h]
        intro hc
        exact ((hm t).1 ⟨hc, by omega⟩).2 rfl
      · rw [Option.isNone_iff_eq_none, ← Option.not_isSome_iff_eq_none, edgeB_has h]
        intro hc
        exact ((hm s).2 ⟨hc, by omega⟩).2 rfl
      · rw [thirdD]
        by_cases e1 : (k : Int) - 1 = s
        · rw [decide_eq_true e1]; rfl
        · by_cases e2 : (k : Int) - 1 = t
          · rw [decide_eq_true e2]; simp
          · rw [decide_eq_false e1, decide_eq_false e2, Bool.false_or, Bool.false_or, Bool.and_eq_true]
            constructor
            · rw [beq_iff_eq, Bool.eq_iff_iff, edgeB_has h, edgeB_has h]
              have := hm ((k : Int) - 1)
              constructor
              · intro hc; exact (this.1 ⟨hc, e1⟩).1
              · intro hc; exact (this.2 ⟨hc, e2⟩).1
            · by_cases e3 : (k : Int) - 1 < 0
              · rw [decide_eq_true e3]; rfl
              · rw [decide_eq_false e3, Bool.false_or]
                rw [leadA, List.all_eq_true] at c4
                have := c4 (((k : Int) - 1).toNat) (List.mem_range.2 (by omega))
                rw [decide_eq_false (by omega), decide_eq_false (by omega), Bool.false_or, Bool.false_or] at this
                exact this
    · rw [if_neg c, if_neg]
      intro hd
      apply c
      simp only [twD, Bool.and_eq_true, decide_eq_true_eq, hs, hg, Option.isSome_some, true_and, List.all_eq_true, List.mem_range] at hd
      obtain ⟨d1, d2, d3, d4, d5⟩ := hd
      rw [Option.isNone_iff_eq_none, ← Option.not_isSome_iff_eq_none, edgeB_has h] at d3 d4
      have key : ∀ u : Int, -1 ≤ u → u ≤ (l.length : Int) - 1 → u ≠ s → u ≠ t → ((u ∈ ((l.getD s (0, [])).2).map (·.1) ↔ u ∈ ((l.getD t (0, [])).2).map (·.1)) ∧ (0 ≤ u → leadO vs l s t u.toNat = true)) := by
        intro u h1 h2 h3 h4
        have := d5 (u + 1).toNat (by omega)
        rw [show (((u + 1).toNat : Nat) : Int) - 1 = u by omega, thirdD, decide_eq_false h3, decide_eq_false h4, Bool.false_or, Bool.false_or, Bool.and_eq_true, beq_iff_eq, Bool.eq_iff_iff, edgeB_has h, edgeB_has h] at this
        refine ⟨this.1, fun h0 => ?_⟩
        have h5 := this.2
        rw [decide_eq_false (by omega), Bool.false_or] at h5
        exact h5
      refine ⟨Ne.symm d1, d2.symm, ?_, ?_⟩
      · rw [comeB, decide_eq_true_eq]
        refine sorted_ext (others_rise h s) (others_rise h t) fun u => ?_
        rw [others_mem, others_mem]
        have hin : ∀ z : Nat, u ∈ ((l.getD z (0, [])).2).map (·.1) → -1 ≤ u ∧ u ≤ (l.length : Int) - 1 := fun z hz => by
          obtain ⟨e, he, rfl⟩ := List.mem_map.1 hz
          exact (sok_rise h z).1 e he
        constructor
        · rintro ⟨h1, h2⟩
          have h3 : u ≠ t := fun e => d3 (e ▸ h1)
          obtain ⟨b1, b2⟩ := hin s h1
          exact ⟨(key u b1 b2 h2 h3).1.1 h1, h3⟩
        · rintro ⟨h1, h2⟩
          have h3 : u ≠ s := fun e => d4 (e ▸ h1)
          obtain ⟨b1, b2⟩ := hin t h1
          exact ⟨(key u b1 b2 h3 h2).1.2 h1, h3⟩
      · rw [leadA, List.all_eq_true]
        intro k hk
        have hk := List.mem_range.1 hk
        by_cases e1 : k = s
        · rw [decide_eq_true e1]; rfl
        · by_cases e2 : k = t
          · rw [decide_eq_true e2]; simp
          · rw [decide_eq_false e1, decide_eq_false e2, Bool.false_or, Bool.false_or]
            have := (key (k : Int) (by omega) (by omega) (by omega) (by omega)).2 (by omega)
            rwa [Int.toNat_natCast] at this
def twinsD (vs : List Int) (l : List St) (s : Nat) (n : Nat) : List (Int × Int) := (List.range n).filterMap fun t => if twD vs l s t then gapB vs l t else none
theorem twinsD_snoc (vs : List Int) (l : List St) (s n : Nat) : twinsD vs l s (n + 1) = twinsD vs l s n ++ (if twD vs l s n then gapB vs l n else none).toList := by
  rw [twinsD, twinsD, List.range_succ, List.filterMap_append]
  congr 1
theorem twinsD_same {nd : Int} {vs : List Int} {l : List St} (h : SOk nd l) {s : Nat} (hs : (gapB vs l s).isSome = true) : twinsD vs l s l.length = twinsB vs l s := by
  have key : ∀ (ts : List Nat), (∀ t ∈ ts, t < l.length) → ts.filterMap (fun t => if twD vs l s t then gapB vs l t else none) = ts.filterMap (twinB vs l s) := by
    intro ts
    induction ts with
    | nil => intro _; rfl
    | cons t r ih =>
      intro ht
      have h1 := twin_same (t := t) h hs (ht t (by simp))
      have h2 := ih fun z hz => ht z (List.mem_cons_of_mem _ hz)
      cases hg : twinB vs l s t with
      | none => rw [hg] at h1; simp only [List.filterMap_cons, h1, hg, h2]
      | some g => rw [hg] at h1; simp only [List.filterMap_cons, h1, hg, h2]
  exact key _ fun t ht => List.mem_range.1 ht
theorem cost_in {vs : List Int} (hv : ∀ v ∈ vs, -144115188075855872 ≤ v ∧ v ≤ 144115188075855872) (c : Int) : -144115188075855872 ≤ costN vs c ∧ costN vs c ≤ 144115188075855872 := by
  rw [costN]
  split
  · decide
  · rw [vAt, List.getD_eq_getElem?_getD]
    cases hc : vs[c.toNat]? with
    | none => decide
    | some v => exact hv v (List.mem_of_getElem? hc)
theorem gap_in {vs : List Int} (hv : ∀ v ∈ vs, -144115188075855872 ≤ v ∧ v ≤ 144115188075855872) {l : List St} {s : Nat} {g : Int × Int} (h : gapB vs l s = some g) : (-144115188075855872 ≤ g.1 ∧ g.1 ≤ 144115188075855872) ∧ -144115188075855872 ≤ g.2 ∧ g.2 ≤ 144115188075855872 := by
  rw [gapB] at h
  split at h
  · cases h
  · split at h
    · cases h
    · split at h
      · cases h
      · split at h
        · cases h
          exact ⟨cost_in hv _, cost_in hv _⟩
        · cases h
theorem twins_in {vs : List Int} {l : List St} {s : Nat} {g : Int × Int} (h : g ∈ twinsB vs l s) : ∃ t, t < l.length ∧ gapB vs l t = some g := by
  rw [twinsB, List.mem_filterMap] at h
  obtain ⟨t, ht, h⟩ := h
  refine ⟨t, List.mem_range.1 ht, ?_⟩
  rw [twinB] at h
  split at h
  · cases h
  · rename_i q hq
    split at h
    · cases h; exact hq
    · cases h
def goneD (vs : List Int) (l : List St) (s : Nat) : Bool :=
  match gapB vs l s with
  | none => false
  | some g => neverD g (twinsD vs l s l.length)
theorem gone_same {nd : Int} {vs : List Int} {l : List St} (h : SOk nd l) (hv : ∀ v ∈ vs, -144115188075855872 ≤ v ∧ v ≤ 144115188075855872) (s : Nat) : goneD vs l s = goneB vs l s := by
  rw [goneD, goneB]
  cases hg : gapB vs l s with
  | none => rfl
  | some g =>
    simp only
    rw [twinsD_same h (by rw [hg]; rfl)]
    refine never_same fun t ht => ?_
    obtain ⟨k, _, hk⟩ := twins_in ht
    have h1 := gap_in hv hg
    have h2 := gap_in hv hk
    omega
end Go.Proofs.Ytolehoibpnenlaa
