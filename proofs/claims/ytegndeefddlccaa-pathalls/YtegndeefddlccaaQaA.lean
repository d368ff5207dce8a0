/-
  The document's own list of paths, gone through forwards and sorted, is the list of all paths.
-/
import Derived.Test.YtegndeefddlccaaPrA
namespace Go.Proofs.Ytegndeefddlccaa
open Go.RowKit

def kindsB (m : Md) : List UInt8 := if m.gaps = [] then [77] else [77, 68, 73]
theorem mem_kinds {m : Md} {c : UInt8} : c ∈ kindsB m ↔ goB m c = true := by
  unfold kindsB goB
  by_cases h : m.gaps = [] <;> simp [h]
def goesL (m : Md) (nx ny : Nat) : Nat → Pt → Int → Int → List Pt
  | 0, _, _, _ => []
  | n + 1, p, i, j => (if endB m nx ny i j then [p] else []) ++ (kindsB m).flatMap fun c => if hasB m nx ny (i + dnB c) (j + ovB c) then goesL m nx ny n ⟨p.i, p.j, p.cols ++ [c]⟩ (i + dnB c) (j + ovB c) else []
def finderL (m : Md) (nx ny : Nat) : List Pt :=
  (List.range (nx + 1)).flatMap fun (i : Nat) => (List.range (ny + 1)).flatMap fun (j : Nat) => if hasB m nx ny (i : Int) (j : Int) && beginB m (i : Int) (j : Int) then goesL m nx ny (nx + ny + 1) ⟨i, j, []⟩ (i : Int) (j : Int) else []
theorem hasB_rng {m : Md} {nx ny : Nat} {i j : Int} (h : hasB m nx ny i j = true) : 0 ≤ i ∧ i ≤ nx ∧ 0 ≤ j ∧ j ≤ ny := by
  unfold hasB at h
  rw [Bool.and_eq_true] at h
  exact of_decide_eq_true h.1
theorem goes_mem (m : Md) (nx ny : Nat) : ∀ (n : Nat) (p : Pt) (i j : Int) (q : Pt), i ≤ nx → j ≤ ny → (nx : Int) + ny + 1 ≤ n + i + j → (q ∈ goesL m nx ny n p i j ↔ ∃ suf, q = ⟨p.i, p.j, p.cols ++ suf⟩ ∧ stepsB m nx ny i j suf = true)
  | 0, p, i, j, q, h1, h2, h3 => by exfalso; simp at h3; omega
  | n + 1, p, i, j, q, h1, h2, h3 => by
    rw [goesL, List.mem_append, List.mem_flatMap]
    constructor
    · rintro (h | ⟨c, hc, h⟩)
      · split at h
        · next he =>
          rw [List.mem_singleton] at h
          exact ⟨[], by rw [List.append_nil, h], he⟩
        · cases h
      · split at h
        · next hh =>
          have hr := hasB_rng hh
          have ha := go_adds (mem_kinds.1 hc)
          obtain ⟨suf, e, hs⟩ := (goes_mem m nx ny n _ _ _ q hr.2.1 hr.2.2.2 (by rw [Int.natCast_add] at h3; omega)).1 h
          refine ⟨c :: suf, by rw [e]; simp, ?_⟩
          rw [stepsB, mem_kinds.1 hc, hh, hs]
          rfl
        · cases h
    · rintro ⟨suf, e, hs⟩
      cases suf with
      | nil =>
        left
        rw [stepsB] at hs
        rw [if_pos hs, e, List.append_nil]
        exact List.mem_singleton.2 rfl
      | cons c cs =>
        right
        rw [stepsB, Bool.and_eq_true, Bool.and_eq_true] at hs
        obtain ⟨⟨hg, hh⟩, hs⟩ := hs
        have hr := hasB_rng hh
        have ha := go_adds hg
        refine ⟨c, mem_kinds.2 hg, ?_⟩
        rw [if_pos hh]
        exact (goes_mem m nx ny n _ _ _ q hr.2.1 hr.2.2.2 (by rw [Int.natCast_add] at h3; omega)).2 ⟨cs, by rw [e]; simp, hs⟩
theorem finder_mem {m : Md} {nx ny : Nat} {q : Pt} : q ∈ finderL m nx ny ↔ allowsB m nx ny q = true := by
  unfold finderL
  constructor
  · intro h
    obtain ⟨i, hi, h⟩ := List.mem_flatMap.1 h
    obtain ⟨j, hj, h⟩ := List.mem_flatMap.1 h
    have hi := List.mem_range.1 hi
    have hj := List.mem_range.1 hj
    split at h
    · next hc =>
      obtain ⟨suf, e, hs⟩ := (goes_mem m nx ny _ _ _ _ q (by omega) (by omega) (by rw [Int.natCast_add, Int.natCast_add]; omega)).1 h
      subst e
      unfold allowsB
      show ((hasB m nx ny (i : Int) (j : Int) && beginB m (i : Int) (j : Int)) && stepsB m nx ny (i : Int) (j : Int) ([] ++ suf)) = true
      rw [hc, List.nil_append, hs]
      rfl
    · cases h
  · intro h
    unfold allowsB at h
    rw [Bool.and_eq_true] at h
    obtain ⟨h1, h2⟩ := h
    have hr := hasB_rng (Bool.and_eq_true .. ▸ h1 : hasB m nx ny q.i q.j = true ∧ beginB m q.i q.j = true).1
    obtain ⟨i, hi⟩ := Int.eq_ofNat_of_zero_le hr.1
    obtain ⟨j, hj⟩ := Int.eq_ofNat_of_zero_le hr.2.2.1
    refine List.mem_flatMap.2 ⟨i, List.mem_range.2 (by omega), List.mem_flatMap.2 ⟨j, List.mem_range.2 (by omega), ?_⟩⟩
    rw [hi, hj] at h1 h2
    rw [if_pos h1]
    exact (goes_mem m nx ny _ _ _ _ q (by omega) (by omega) (by rw [Int.natCast_add, Int.natCast_add]; omega)).2 ⟨q.cols, by rw [List.nil_append, ← hi, ← hj], h2⟩
theorem goes_nodup (m : Md) (nx ny : Nat) : ∀ (n : Nat) (p : Pt) (i j : Int), (∀ q ∈ goesL m nx ny n p i j, ∃ suf, q = ⟨p.i, p.j, p.cols ++ suf⟩) ∧ (goesL m nx ny n p i j).Pairwise (· ≠ ·)
  | 0, _, _, _ => ⟨fun q h => by simp [goesL] at h, by simp [goesL]⟩
  | n + 1, p, i, j => by
    have IH := goes_nodup m nx ny n
    have hsub : ∀ (c : UInt8) (q : Pt), q ∈ (if hasB m nx ny (i + dnB c) (j + ovB c) then goesL m nx ny n ⟨p.i, p.j, p.cols ++ [c]⟩ (i + dnB c) (j + ovB c) else []) → ∃ suf, q = ⟨p.i, p.j, p.cols ++ c :: suf⟩ := by
      intro c q h
      split at h
      · obtain ⟨suf, e⟩ := (IH _ _ _).1 q h
        exact ⟨suf, by rw [e]; simp⟩
      · cases h
    constructor
    · intro q h
      rw [goesL, List.mem_append, List.mem_flatMap] at h
      rcases h with h | ⟨c, _, h⟩
      · split at h
        · rw [List.mem_singleton] at h; exact ⟨[], by rw [h, List.append_nil]⟩
        · cases h
      · obtain ⟨suf, e⟩ := hsub c q h
        exact ⟨_, e⟩
    · rw [goesL, List.pairwise_append]
      refine ⟨?_, ?_, ?_⟩
      · split
        · exact List.pairwise_singleton _ _
        · exact List.Pairwise.nil
      · rw [List.pairwise_flatMap]
        refine ⟨fun c _ => ?_, ?_⟩
        · split
          · exact (IH _ _ _).2
          · exact List.Pairwise.nil
        · have hk : (kindsB m).Pairwise (· ≠ ·) := by unfold kindsB; split <;> decide
          refine hk.imp ?_
          intro c d hcd x hx y hy e
          obtain ⟨s1, e1⟩ := hsub c x hx
          obtain ⟨s2, e2⟩ := hsub d y hy
          rw [e1, e2] at e
          have := congrArg Pt.cols e
          have := List.append_cancel_left this
          injection this with h1 _
          exact hcd h1
      · intro x hx y hy e
        split at hx
        · rw [List.mem_singleton] at hx
          obtain ⟨c, _, hy⟩ := List.mem_flatMap.1 hy
          obtain ⟨s, e2⟩ := hsub c y hy
          rw [hx, e2] at e
          have := congrArg (fun q => q.cols.length) e
          simp at this
        · cases hx
theorem finder_nodup (m : Md) (nx ny : Nat) : (finderL m nx ny).Pairwise (· ≠ ·) := by
  have hp : ∀ (i j : Nat) (q : Pt), q ∈ (if hasB m nx ny (i : Int) (j : Int) && beginB m (i : Int) (j : Int) then goesL m nx ny (nx + ny + 1) ⟨i, j, []⟩ (i : Int) (j : Int) else []) → q.i = i ∧ q.j = j := by
    intro i j q h
    split at h
    · obtain ⟨s, e⟩ := (goes_nodup m nx ny _ _ _ _).1 q h
      rw [e]; exact ⟨rfl, rfl⟩
    · cases h
  unfold finderL
  rw [List.pairwise_flatMap]
  refine ⟨fun i _ => ?_, ?_⟩
  · rw [List.pairwise_flatMap]
    refine ⟨fun j _ => ?_, ?_⟩
    · split
      · exact (goes_nodup m nx ny _ _ _ _).2
      · exact List.Pairwise.nil
    · refine (List.pairwise_lt_range (n := ny + 1)).imp ?_
      intro a b hab x hx y hy e
      have h1 := (hp i a x hx).2
      have h2 := (hp i b y hy).2
      rw [e] at h1
      omega
  · refine (List.pairwise_lt_range (n := nx + 1)).imp ?_
    intro a b hab x hx y hy e
    obtain ⟨j, _, hx⟩ := List.mem_flatMap.1 hx
    obtain ⟨k, _, hy⟩ := List.mem_flatMap.1 hy
    have h1 := (hp a j x hx).1
    have h2 := (hp b k y hy).1
    rw [e] at h1
    omega
/-- All cells on the way from a path's beginning. -/
def wayB (m : Md) (nx ny : Nat) : Int → Int → List UInt8 → Bool
  | i, j, [] => hasB m nx ny i j
  | i, j, c :: cs => hasB m nx ny i j && goB m c && wayB m nx ny (i + dnB c) (j + ovB c) cs
theorem way_snoc (m : Md) (nx ny : Nat) : ∀ (cs : List UInt8) (c : UInt8) (i j : Int), wayB m nx ny i j (cs ++ [c]) = (wayB m nx ny i j cs && goB m c && hasB m nx ny (i + sumD cs + dnB c) (j + sumO cs + ovB c))
  | [], c, i, j => by simp [wayB, sumD, sumO]
  | d :: cs, c, i, j => by
    rw [List.cons_append, wayB, wayB, way_snoc m nx ny cs c, sumD, sumO]
    rw [show i + (dnB d + sumD cs) + dnB c = i + dnB d + sumD cs + dnB c by omega, show j + (ovB d + sumO cs) + ovB c = j + ovB d + sumO cs + ovB c by omega]
    simp only [Bool.and_assoc]
theorem way_end (m : Md) (nx ny : Nat) : ∀ (cs : List UInt8) (i j : Int), wayB m nx ny i j cs = true → hasB m nx ny (i + sumD cs) (j + sumO cs) = true
  | [], i, j, h => by simpa [wayB, sumD, sumO] using h
  | c :: cs, i, j, h => by
    rw [wayB, Bool.and_eq_true] at h
    have := way_end m nx ny cs _ _ h.2
    rw [sumD, sumO]
    rw [show i + (dnB c + sumD cs) = i + dnB c + sumD cs by omega, show j + (ovB c + sumO cs) = j + ovB c + sumO cs by omega]
    exact this
theorem into_has (m : Md) (nx ny : Nat) (a b : Int) (hb : beginB m a b = true) : ∀ (n : Nat) (pre suf : List UInt8), pre.length < n → wayB m nx ny a b pre = true → (⟨a, b, pre ++ suf⟩ : Pt) ∈ intoF m nx ny n (a + sumD pre) (b + sumO pre) suf
  | 0, _, _, h, _ => by omega
  | n + 1, pre, suf, h, hw => by
    have he := way_end m nx ny pre a b hw
    rw [intoF, if_pos he, List.mem_append]
    rcases List.eq_nil_or_concat pre with rfl | ⟨pr, c, rfl⟩
    · left
      simp only [sumD, sumO, Int.add_zero, List.nil_append]
      rw [if_pos hb]
      exact List.mem_singleton.2 rfl
    · right
      rw [List.concat_eq_append] at h hw ⊢
      rw [way_snoc, Bool.and_eq_true, Bool.and_eq_true] at hw
      obtain ⟨⟨hw, hg⟩, _⟩ := hw
      have hk : c ∈ ([77, 68, 73] : List UInt8) := by
        rcases goB_kinds hg with rfl | ⟨rfl | rfl, _⟩ <;> simp
      refine List.mem_flatMap.2 ⟨c, hk, ?_⟩
      rw [if_pos hg, sumD_app, sumO_app]
      simp only [sumD, sumO, Int.add_zero]
      rw [show a + (sumD pr + dnB c) - dnB c = a + sumD pr by omega, show b + (sumO pr + ovB c) - ovB c = b + sumO pr by omega]
      have := into_has m nx ny a b hb n pr (c :: suf) (by simp at h; omega) hw
      rw [List.append_assoc]
      exact this
theorem steps_way (m : Md) (nx ny : Nat) : ∀ (cs : List UInt8) (i j : Int), hasB m nx ny i j = true → stepsB m nx ny i j cs = true → wayB m nx ny i j cs = true ∧ endB m nx ny (i + sumD cs) (j + sumO cs) = true
  | [], i, j, h, hs => by
    rw [stepsB] at hs
    exact ⟨h, by simpa [sumD, sumO] using hs⟩
  | c :: cs, i, j, h, hs => by
    rw [stepsB, Bool.and_eq_true, Bool.and_eq_true] at hs
    obtain ⟨⟨hg, hh⟩, hs⟩ := hs
    obtain ⟨q1, q2⟩ := steps_way m nx ny cs _ _ hh hs
    refine ⟨by rw [wayB, h, hg, q1]; rfl, ?_⟩
    rw [sumD, sumO]
    rw [show i + (dnB c + sumD cs) = i + dnB c + sumD cs by omega, show j + (ovB c + sumO cs) = j + ovB c + sumO cs by omega]
    exact q2
theorem way_len (m : Md) (nx ny : Nat) : ∀ (cs : List UInt8) (i j : Int), wayB m nx ny i j cs = true → (cs.length : Int) ≤ sumD cs + sumO cs
  | [], _, _, _ => by simp [sumD, sumO]
  | c :: cs, i, j, h => by
    rw [wayB, Bool.and_eq_true, Bool.and_eq_true] at h
    have h1 := way_len m nx ny cs _ _ h.2
    have h2 := go_adds h.1.2
    rw [sumD, sumO, List.length_cons]
    omega
theorem paths_mem {m : Md} {nx ny : Nat} {q : Pt} : q ∈ pathsB m nx ny ↔ allowsB m nx ny q = true := by
  constructor
  · exact fun h => (pathsB_ok h).1
  · intro h
    unfold allowsB at h
    rw [Bool.and_eq_true, Bool.and_eq_true] at h
    obtain ⟨⟨hh, hb⟩, hs⟩ := h
    obtain ⟨h1, h2⟩ := steps_way m nx ny q.cols q.i q.j hh hs
    have h3 := hasB_rng (way_end m nx ny q.cols q.i q.j h1)
    have h4 := hasB_rng hh
    have h5 := way_len m nx ny q.cols q.i q.j h1
    obtain ⟨i, hi⟩ := Int.eq_ofNat_of_zero_le h3.1
    obtain ⟨j, hj⟩ := Int.eq_ofNat_of_zero_le h3.2.2.1
    unfold pathsB
    refine List.mem_flatMap.2 ⟨i, List.mem_range.2 (by omega), List.mem_flatMap.2 ⟨j, List.mem_range.2 (by omega), ?_⟩⟩
    rw [← hi, ← hj, if_pos h2]
    have := into_has m nx ny q.i q.j hb (i + j + 1) q.cols [] (by omega) h1
    rw [List.append_nil] at this
    exact this
theorem sorted_ext {l1 l2 : List Pt} (h1 : l1.Pairwise fun p q => lessB p q = true) (h2 : l2.Pairwise fun p q => lessB p q = true) (h : ∀ x, x ∈ l1 ↔ x ∈ l2) : l1 = l2 := by
  induction l1 generalizing l2 with
  | nil =>
    cases l2 with
    | nil => rfl
    | cons y l2 => exact absurd ((h y).2 List.mem_cons_self) (by simp)
  | cons x l1 ih =>
    cases l2 with
    | nil => exact absurd ((h x).1 List.mem_cons_self) (by simp)
    | cons y l2 =>
      obtain ⟨a1, a2⟩ := List.pairwise_cons.1 h1
      obtain ⟨b1, b2⟩ := List.pairwise_cons.1 h2
      have e : x = y := by
        rcases List.mem_cons.1 ((h x).1 List.mem_cons_self) with e | hx
        · exact e
        · rcases List.mem_cons.1 ((h y).2 List.mem_cons_self) with e | hy
          · exact e.symm
          · have := less_asym (a1 y hy); rw [b1 x hx] at this; cases this
      subst e
      congr 1
      refine ih a2 b2 fun z => ?_
      constructor
      · intro hz
        rcases List.mem_cons.1 ((h z).1 (List.mem_cons_of_mem _ hz)) with e | hz2
        · subst e; have := a1 z hz; rw [less_self] at this; cases this
        · exact hz2
      · intro hz
        rcases List.mem_cons.1 ((h z).2 (List.mem_cons_of_mem _ hz)) with e | hz2
        · subst e; have := b1 z hz; rw [less_self] at this; cases this
        · exact hz2
def sortF : Nat → List Pt → List Pt
  | 0, l => l
  | n + 1, l => if l.length < 2 then l else (sortF n (l.take (l.length / 2))).merge (sortF n (l.drop (l.length / 2))) lessB
theorem sort_mem : ∀ (n : Nat) (l : List Pt) (x : Pt), x ∈ sortF n l ↔ x ∈ l
  | 0, _, _ => Iff.rfl
  | n + 1, l, x => by
    rw [sortF]
    split
    · exact Iff.rfl
    · rw [List.mem_merge, sort_mem n, sort_mem n, ← List.mem_append, List.take_append_drop]
theorem merge_sorted : ∀ (l r : List Pt), (l.Pairwise fun p q => lessB p q = true) → (r.Pairwise fun p q => lessB p q = true) → (∀ x ∈ l, ∀ y ∈ r, lessB x y = true ∨ lessB y x = true) → (l.merge r lessB).Pairwise fun p q => lessB p q = true
  | [], r, _, h2, _ => by simpa [List.merge] using h2
  | x :: l, [], h1, _, _ => by simpa [List.merge] using h1
  | x :: l, y :: r, h1, h2, h => by
    obtain ⟨a1, a2⟩ := List.pairwise_cons.1 h1
    obtain ⟨b1, b2⟩ := List.pairwise_cons.1 h2
    rw [List.cons_merge_cons]
    split
    · next hxy =>
      refine List.pairwise_cons.2 ⟨fun z hz => ?_, merge_sorted l (y :: r) a2 h2 (fun u hu v hv => h u (List.mem_cons_of_mem _ hu) v hv)⟩
      rcases List.mem_merge.1 hz with hz | hz
      · exact a1 z hz
      · rcases List.mem_cons.1 hz with rfl | hz
        · exact hxy
        · exact less_trans hxy (b1 z hz)
    · next hxy =>
      have hyx : lessB y x = true := by
        rcases h x List.mem_cons_self y List.mem_cons_self with e | e
        · exact absurd e hxy
        · exact e
      refine List.pairwise_cons.2 ⟨fun z hz => ?_, merge_sorted (x :: l) r h1 b2 (fun u hu v hv => h u hu v (List.mem_cons_of_mem _ hv))⟩
      rcases List.mem_merge.1 hz with hz | hz
      · rcases List.mem_cons.1 hz with rfl | hz
        · exact hyx
        · exact less_trans hyx (a1 z hz)
      · exact b1 z hz
theorem sort_sorted : ∀ (n : Nat) (l : List Pt), l.length ≤ n + 1 → l.Pairwise (· ≠ ·) → (∀ x ∈ l, ∀ y ∈ l, x ≠ y → lessB x y = true ∨ lessB y x = true) → (sortF n l).Pairwise fun p q => lessB p q = true
  | 0, l, hl, _, _ => by
    rw [sortF]
    match l, hl with
    | [], _ => exact List.Pairwise.nil
    | [x], _ => exact List.pairwise_singleton _ _
  | n + 1, l, hl, hd, hc => by
    rw [sortF]
    split
    · next hs =>
      match l, hs with
      | [], _ => exact List.Pairwise.nil
      | [x], _ => exact List.pairwise_singleton _ _
    · next hs =>
      have hd2 : ((l.take (l.length / 2)) ++ (l.drop (l.length / 2))).Pairwise (· ≠ ·) := by rw [List.take_append_drop]; exact hd
      rw [List.pairwise_append] at hd2
      refine merge_sorted _ _ (sort_sorted n _ (by rw [List.length_take]; omega) hd2.1 (fun x hx y hy => hc x (List.mem_of_mem_take hx) y (List.mem_of_mem_take hy))) (sort_sorted n _ (by rw [List.length_drop]; omega) hd2.2.1 (fun x hx y hy => hc x (List.mem_of_mem_drop hx) y (List.mem_of_mem_drop hy))) ?_
      intro x hx y hy
      have hx := (sort_mem _ _ _).1 hx
      have hy := (sort_mem _ _ _).1 hy
      exact hc x (List.mem_of_mem_take hx) y (List.mem_of_mem_drop hy) (hd2.2.2 x hx y hy)
theorem sorted_paths {m : Md} {nx ny : Nat} (hx : nx ≤ 1000) (hy : ny ≤ 1000) (n : Nat) (hn : (finderL m nx ny).length ≤ n + 1) : sortF n (finderL m nx ny) = pathsB m nx ny := by
  refine sorted_ext (sort_sorted n _ hn (finder_nodup m nx ny) ?_) (paths_sorted hx hy) (fun x => by rw [sort_mem, finder_mem, paths_mem])
  intro x hx' y hy' hne
  have a1 := finder_mem.1 hx'
  have a2 := finder_mem.1 hy'
  unfold allowsB at a1 a2
  rw [Bool.and_eq_true, Bool.and_eq_true] at a1 a2
  have r1 := hasB_rng a1.1.1
  have r2 := hasB_rng a2.1.1
  by_cases e1 : lessB x y = true
  · exact .inl e1
  · by_cases e2 : lessB y x = true
    · exact .inr e2
    · exact absurd (less_same (by omega) (by omega) (by omega) (by omega) (by simpa using e1) (by simpa using e2)) hne
end Go.Proofs.Ytegndeefddlccaa
