/-
  All paths stand in their order; the first best; between which numbers a legal path's worth lies.
-/
import Derived.Test.YtegndeefddlccaaPyC
import Derived.Test.YtegndeefddlccaaPwD
import Derived.Test.YtegndeefddlccaaPzA
namespace Go.Proofs.Ytegndeefddlccaa
open Go.RowKit

theorem sumD_nn : ∀ (cs : List UInt8), 0 ≤ sumD cs
  | [] => by simp [sumD]
  | c :: cs => by
    have h1 := sumD_nn cs
    have h2 := dn_rng c
    rw [sumD]
    omega
theorem sumO_nn : ∀ (cs : List UInt8), 0 ≤ sumO cs
  | [] => by simp [sumO]
  | c :: cs => by
    have h1 := sumO_nn cs
    have h2 := ov_rng c
    rw [sumO]
    omega
theorem endW_sum : ∀ (cs : List UInt8) (i j : Int), 0 ≤ i → 0 ≤ j → i + sumD cs ≤ 1000000 → j + sumO cs ≤ 1000000 → endW i j cs = (i + sumD cs, j + sumO cs)
  | [], i, j, _, _, _, _ => by simp [endW, sumD, sumO]
  | c :: cs, i, j, hi, hj, h1, h2 => by
    have a1 := dn_rng c
    have a2 := ov_rng c
    have a3 := sumD_nn cs
    have a4 := sumO_nn cs
    rw [sumD] at h1
    rw [sumO] at h2
    rw [endW, sumD, sumO, show wrap64 (i + dnB c) = i + dnB c by unfold wrap64; omega, show wrap64 (j + ovB c) = j + ovB c by unfold wrap64; omega, endW_sum cs _ _ (by omega) (by omega) (by omega) (by omega)]
    rw [Int.add_assoc, Int.add_assoc]
theorem into_from (m : Md) (nx ny : Nat) : ∀ (n : Nat) (i j : Int) (b : List UInt8), ∀ p ∈ intoF m nx ny n i j b, ∃ pre, p.cols = pre ++ b ∧ p.i + sumD pre = i ∧ p.j + sumO pre = j ∧ 0 ≤ p.i ∧ 0 ≤ p.j
  | 0, _, _, _, p, h => by simp [intoF] at h
  | n + 1, i, j, b, p, h => by
    rw [intoF] at h
    split at h
    · next hh =>
      rcases List.mem_append.1 h with h | h
      · split at h
        · rw [List.mem_singleton] at h
          subst h
          unfold hasB at hh
          simp at hh
          exact ⟨[], rfl, by simp [sumD], by simp [sumO], by show 0 ≤ i; omega, by show 0 ≤ j; omega⟩
        · cases h
      · obtain ⟨c, _, hc⟩ := List.mem_flatMap.1 h
        split at hc
        · obtain ⟨pre, e1, e2, e3, e4, e5⟩ := into_from m nx ny n _ _ _ p hc
          refine ⟨pre ++ [c], by rw [e1]; simp, ?_, ?_, e4, e5⟩
          · rw [sumD_app, sumD, sumD]; omega
          · rw [sumO_app, sumO, sumO]; omega
        · cases hc
    · cases h
theorem colR_app (a u v : List UInt8) : colR (a ++ u) (a ++ v) = colR u v := by
  induction a with
  | nil => rfl
  | cons c a ih =>
    show colR (c :: (a ++ u)) (c :: (a ++ v)) = _
    rw [colR, if_pos (cmpB_eq.2 rfl), ih]
def CR (p q : Pt) : Prop := colR p.cols.reverse q.cols.reverse < 0
theorem rev_pre (p : Pt) {pre b : List UInt8} {c : UInt8} (h : p.cols = pre ++ (c :: b)) : p.cols.reverse = b.reverse ++ (c :: pre.reverse) := by
  rw [h]; simp
theorem into_cross (m : Md) (nx ny n k : Nat) (i j i' j' : Int) (b : List UInt8) (c d : UInt8) (h : rankB c < rankB d) : ∀ p ∈ intoF m nx ny n i j (c :: b), ∀ q ∈ intoF m nx ny k i' j' (d :: b), CR p q := by
  intro p hp q hq
  obtain ⟨u, e1, _⟩ := into_from m nx ny n _ _ _ p hp
  obtain ⟨v, e2, _⟩ := into_from m nx ny k _ _ _ q hq
  unfold CR
  rw [rev_pre p e1, rev_pre q e2, colR_app, colR_lt]
  exact .inl h
theorem into_first (m : Md) (nx ny n : Nat) (i j i' j' : Int) (b : List UInt8) (c : UInt8) : ∀ q ∈ intoF m nx ny n i j (c :: b), CR ⟨i', j', b⟩ q := by
  intro q hq
  obtain ⟨v, e2, _⟩ := into_from m nx ny n _ _ _ q hq
  unfold CR
  rw [rev_pre q e2]
  have := colR_app b.reverse [] (c :: v.reverse)
  rw [List.append_nil] at this
  rw [this]
  show (-1 : Int) < 0
  decide
theorem into_sorted (m : Md) (nx ny : Nat) : ∀ (n : Nat) (i j : Int) (b : List UInt8), (intoF m nx ny n i j b).Pairwise CR
  | 0, _, _, _ => by simp [intoF]
  | n + 1, i, j, b => by
    have IH := into_sorted m nx ny n
    rw [intoF]
    split
    · rw [List.pairwise_append]
      refine ⟨?_, ?_, ?_⟩
      · split
        · exact List.pairwise_singleton _ _
        · exact List.Pairwise.nil
      · simp only [List.flatMap_cons, List.flatMap_nil, List.append_nil]
        rw [List.pairwise_append, List.pairwise_append]
        refine ⟨?_, ⟨?_, ?_, ?_⟩, ?_⟩
        · split
          · exact IH ..
          · exact List.Pairwise.nil
        · split
          · exact IH ..
          · exact List.Pairwise.nil
        · split
          · exact IH ..
          · exact List.Pairwise.nil
        · intro p hp q hq
          split at hp
          · split at hq
            · exact into_cross m nx ny _ _ _ _ _ _ b 68 73 (by decide) p hp q hq
            · cases hq
          · cases hp
        · intro p hp q hq
          split at hp
          · rcases List.mem_append.1 hq with hq | hq
            · split at hq
              · exact into_cross m nx ny _ _ _ _ _ _ b 77 68 (by decide) p hp q hq
              · cases hq
            · split at hq
              · exact into_cross m nx ny _ _ _ _ _ _ b 77 73 (by decide) p hp q hq
              · cases hq
          · cases hp
      · intro p hp q hq
        split at hp
        · rw [List.mem_singleton] at hp
          subst hp
          obtain ⟨c, _, hc⟩ := List.mem_flatMap.1 hq
          split at hc
          · exact into_first m nx ny _ _ _ _ _ b c q hc
          · cases hc
        · cases hp
    · exact List.Pairwise.nil
theorem into_end {m : Md} {nx ny n : Nat} {i j : Nat} (hi : i ≤ 1000000) (hj : j ≤ 1000000) {p : Pt} (h : p ∈ intoF m nx ny n (i : Int) (j : Int) []) : endW p.i p.j p.cols = ((i : Int), (j : Int)) := by
  obtain ⟨pre, e1, e2, e3, e4, e5⟩ := into_from m nx ny n _ _ _ p h
  rw [List.append_nil] at e1
  rw [e1, endW_sum _ _ _ e4 e5 (by omega) (by omega), e2, e3]
theorem less_cell {m : Md} {nx ny n k : Nat} {i j i' j' : Nat} (hi : i ≤ 1000000) (hj : j ≤ 1000000) (hi' : i' ≤ 1000000) (hj' : j' ≤ 1000000) (h : i < i' ∨ (i = i' ∧ j < j')) {p q : Pt} (hp : p ∈ intoF m nx ny n (i : Int) (j : Int) []) (hq : q ∈ intoF m nx ny k (i' : Int) (j' : Int) []) : lessB p q = true := by
  rw [less_iff, into_end hi hj hp, into_end hi' hj' hq]
  show (i : Int) < i' ∨ ((i : Int) = i' ∧ ((j : Int) < j' ∨ _))
  rcases h with h | ⟨rfl, h⟩
  · left; omega
  · right; exact ⟨rfl, .inl (by omega)⟩
theorem paths_sorted {m : Md} {nx ny : Nat} (hx : nx ≤ 1000) (hy : ny ≤ 1000) : (pathsB m nx ny).Pairwise fun p q => lessB p q = true := by
  unfold pathsB
  rw [List.pairwise_flatMap]
  refine ⟨fun i hi => ?_, ?_⟩
  · rw [List.pairwise_flatMap]
    have hi := List.mem_range.1 hi
    refine ⟨fun j hj => ?_, ?_⟩
    · have hj := List.mem_range.1 hj
      split
      · refine List.Pairwise.imp_of_mem ?_ (into_sorted m nx ny (i + j + 1) (i : Int) (j : Int) [])
        intro p q hp hq hr
        rw [less_iff, into_end (by omega) (by omega) hp, into_end (by omega) (by omega) hq]
        exact .inr ⟨rfl, .inr ⟨rfl, hr⟩⟩
      · exact List.Pairwise.nil
    · refine List.Pairwise.imp_of_mem ?_ (List.pairwise_lt_range (n := ny + 1))
      intro j j' hj hj' hlt p hp q hq
      have hj := List.mem_range.1 hj
      have hj' := List.mem_range.1 hj'
      split at hp
      · split at hq
        · exact less_cell (by omega) (by omega) (by omega) (by omega) (.inr ⟨rfl, hlt⟩) hp hq
        · cases hq
      · cases hp
  · refine List.Pairwise.imp_of_mem ?_ (List.pairwise_lt_range (n := nx + 1))
    intro i i' hi hi' hlt p hp q hq
    have hi := List.mem_range.1 hi
    have hi' := List.mem_range.1 hi'
    obtain ⟨j, hj, hp⟩ := List.mem_flatMap.1 hp
    obtain ⟨j', hj', hq⟩ := List.mem_flatMap.1 hq
    have hj := List.mem_range.1 hj
    have hj' := List.mem_range.1 hj'
    split at hp
    · split at hq
      · exact less_cell (by omega) (by omega) (by omega) (by omega) (.inl hlt) hp hq
      · cases hq
    · cases hp

/-- The first best of a list in its order. -/
structure FirstB (m : Md) (xs ys : List Int) (l : List Pt) (r : Int × Pt) : Prop where
  is : r.1 = worthW m xs ys r.2
  mem : r.2 ∈ l
  most : ∀ p ∈ l, worthW m xs ys p ≤ r.1
  first : ∀ p ∈ l, worthW m xs ys p = r.1 → p ≠ r.2 → lessB r.2 p = true
theorem best_first (m : Md) (xs ys : List Int) : ∀ (k : Nat) (l : List Pt), l.length = k → (l.Pairwise fun p q => lessB p q = true) → (l = [] ∧ bestL m xs ys l = none) ∨ ∃ r, bestL m xs ys l = some r ∧ FirstB m xs ys l r
  | 0, l, hl, _ => by
    have := List.eq_nil_of_length_eq_zero hl
    subst this
    exact .inl ⟨rfl, rfl⟩
  | k + 1, l, hl, hs => by
    rcases List.eq_nil_or_concat l with rfl | ⟨l', x, rfl⟩
    · exact .inl ⟨rfl, rfl⟩
    · rw [List.concat_eq_append] at hl hs ⊢
      rw [List.length_append] at hl
      rw [List.pairwise_append] at hs
      obtain ⟨s1, _, s3⟩ := hs
      right
      rw [bestL_snoc]
      rcases best_first m xs ys k l' (by simp at hl; exact hl) s1 with ⟨rfl, e⟩ | ⟨r, e, hr⟩
      · rw [e]
        refine ⟨(worthW m xs ys x, x), rfl, rfl, by simp, fun p hp => ?_, fun p hp _ hne => ?_⟩
        · simp at hp; subst hp; exact Int.le_refl _
        · simp at hp; exact absurd hp hne
      · rw [e]
        unfold bstep
        by_cases hw : r.1 < worthW m xs ys x
        · refine ⟨(worthW m xs ys x, x), by simp [hw], rfl, by simp, fun p hp => ?_, fun p hp he hne => ?_⟩
          · rcases List.mem_append.1 hp with hp | hp
            · have := hr.most p hp; show _ ≤ worthW m xs ys x; omega
            · simp at hp; subst hp; exact Int.le_refl _
          · rcases List.mem_append.1 hp with hp | hp
            · have := hr.most p hp; have he : worthW m xs ys p = worthW m xs ys x := he; omega
            · simp at hp; exact absurd hp hne
        · refine ⟨r, by simp [hw], hr.is, List.mem_append_left _ hr.mem, fun p hp => ?_, fun p hp he hne => ?_⟩
          · rcases List.mem_append.1 hp with hp | hp
            · exact hr.most p hp
            · simp at hp; subst hp; omega
          · rcases List.mem_append.1 hp with hp | hp
            · exact hr.first p hp he hne
            · simp at hp; subst hp; exact s3 _ hr.mem _ (by simp)
end Go.Proofs.Ytegndeefddlccaa
