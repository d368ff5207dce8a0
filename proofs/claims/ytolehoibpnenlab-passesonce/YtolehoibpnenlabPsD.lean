/-
  Rising lists; numbers sorted, each once, looked up: the library's calls on rows of one's own.
-/
import Derived.Test.YtolehoibpnenlabPsB
import Derived.Test.YtolehoibpnenlabShelf
namespace Go.Proofs.Ytolehoibpnenlab
open Go.RowKit Go.Deep Go.Maps

def Rising (l : List Int) : Prop := l.Pairwise (· < ·)
theorem rising_eq : ∀ {a b : List Int}, Rising a → Rising b → (∀ v, v ∈ a ↔ v ∈ b) → a = b
  | [], [], _, _, _ => rfl
  | [], y :: s, _, _, h => by have := (h y).2 (by simp); simp at this
  | x :: r, [], _, _, h => by have := (h x).1 (by simp); simp at this
  | x :: r, y :: s, ha, hb, h => by
    have ha' := List.pairwise_cons.1 ha
    have hb' := List.pairwise_cons.1 hb
    have hxy : x = y := by
      rcases List.mem_cons.1 ((h x).1 (by simp)) with e | e
      · exact e
      · rcases List.mem_cons.1 ((h y).2 (by simp)) with e' | e'
        · exact e'.symm
        · have h1 := hb'.1 x e
          have h2 := ha'.1 y e'
          omega
    subst hxy
    rw [rising_eq ha'.2 hb'.2 fun v => ⟨fun hv => ?_, fun hv => ?_⟩]
    · rcases List.mem_cons.1 ((h v).1 (List.mem_cons_of_mem _ hv)) with e | e
      · subst e; have := ha'.1 v hv; omega
      · exact e
    · rcases List.mem_cons.1 ((h v).2 (List.mem_cons_of_mem _ hv)) with e | e
      · subst e; have := hb'.1 v hv; omega
      · exact e
theorem with_put (n : Int) : ∀ (l : List Int), withF n true l = l.filter fun a => decide (a ≠ n)
  | [] => rfl
  | a :: r => by
    simp only [withF, with_put n r, Bool.not_true, Bool.false_and, Bool.true_or, List.filter_cons]
    by_cases h : a = n <;> simp [h]
theorem with_rising (n : Int) : ∀ (l : List Int), Rising l → Rising (withF n false l) ∧ ∀ v, v ∈ withF n false l ↔ v = n ∨ v ∈ l
  | [], _ => by simp [withF, Rising]
  | a :: r, h => by
    have h' := List.pairwise_cons.1 h
    have ih := with_rising n r h'.2
    by_cases h1 : n ≤ a
    · simp only [withF, h1, decide_true, Bool.not_false, Bool.and_self, if_true, Bool.or_true, with_put]
      by_cases h2 : a = n
      · subst h2
        have hf : r.filter (fun z => decide (z ≠ a)) = r := List.filter_eq_self.2 fun z hz => by have := h'.1 z hz; simp; omega
        rw [hf]
        refine ⟨by simpa using h, fun v => by simp⟩
      · have hf : r.filter (fun z => decide (z ≠ n)) = r := List.filter_eq_self.2 fun z hz => by have := h'.1 z hz; simp; omega
        rw [hf]
        simp only [ne_eq, h2, not_false_eq_true, if_true, List.singleton_append]
        refine ⟨List.pairwise_cons.2 ⟨fun z hz => ?_, h⟩, fun v => by simp⟩
        rcases List.mem_cons.1 hz with e | e
        · subst e; omega
        · have := h'.1 z e; omega
    · have hn : a ≠ n := by omega
      simp only [withF, h1, decide_false, Bool.and_false, Bool.or_false, hn, ne_eq, not_false_eq_true, if_true, List.singleton_append]
      simp only [Bool.false_eq_true, if_false, List.nil_append]
      refine ⟨List.pairwise_cons.2 ⟨fun z hz => ?_, ih.1⟩, fun v => by rw [List.mem_cons, ih.2 v, List.mem_cons]; constructor <;> (rintro (h | h | h) <;> simp [h])⟩
      rcases (ih.2 z).1 hz with e | e
      · omega
      · exact h'.1 z e
theorem withs_rising : ∀ (ns l : List Int), Rising l → Rising (ns.foldl (fun l n => withF n false l) l) ∧ ∀ v, v ∈ ns.foldl (fun l n => withF n false l) l ↔ v ∈ ns ∨ v ∈ l
  | [], l, h => ⟨h, fun v => by simp⟩
  | n :: ns, l, h => by
    have h1 := with_rising n l h
    have h2 := withs_rising ns _ h1.1
    refine ⟨h2.1, fun v => ?_⟩
    rw [List.foldl_cons, h2.2 v, h1.2 v, List.mem_cons]
    constructor
    · rintro (h | h | h) <;> simp [h]
    · rintro ((h | h) | h) <;> simp [h]
theorem kept_rising (x : Rc) (vs : List Int) : Rising (keptB x vs) ∧ ∀ v, v ∈ keptB x vs ↔ v ∈ numsP x vs := by
  have h := withs_rising (numsP x vs) [] List.Pairwise.nil
  exact ⟨h.1, fun v => by rw [keptB, h.2 v]; simp⟩
/-- What is left of a sorted list, each once. -/
theorem compact_rising (l : List Int) (h : l.Pairwise (· ≤ ·)) : Rising (Lib.compact l) ∧ ∀ v, v ∈ Lib.compact l ↔ v ∈ l := by
  have hg : ∀ (i : Nat) (hi : i < l.length), l.toArray[i]! = l[i] := fun i hi => by simp [getElem!_pos, hi]
  have hle : ∀ (i j : Nat) (_ : i ≤ j) (hj : j < l.length), l.toArray[i]! ≤ l.toArray[j]! := fun i j hij hj => by
    rw [hg i (by omega), hg j hj]
    rcases Nat.lt_or_ge i j with q | q
    · exact List.pairwise_iff_getElem.1 h i j (by omega) hj q
    · obtain rfl : i = j := by omega
      exact Int.le_refl _
  have key : ∀ m, m ≤ l.length → Rising (Lib.compactUpTo l.toArray m) ∧ (∀ v, v ∈ Lib.compactUpTo l.toArray m ↔ ∃ j, j < m ∧ l.toArray[j]! = v) := by
    intro m
    induction m with
    | zero => intro _; exact ⟨by simp [Lib.compactUpTo, Rising], fun v => by simp [Lib.compactUpTo]⟩
    | succ m ih =>
      intro hm
      obtain ⟨i1, i2⟩ := ih (by omega)
      rw [Lib.compactUpTo_succ]
      cases hk : Lib.keeps l.toArray m with
      | false =>
        simp only [Bool.false_eq_true, if_false, List.append_nil]
        refine ⟨i1, fun v => ?_⟩
        rw [i2 v]
        simp only [Lib.keeps, decide_eq_false_iff_not, not_or, Decidable.not_not] at hk
        constructor
        · rintro ⟨j, hj, e⟩; exact ⟨j, by omega, e⟩
        · rintro ⟨j, hj, e⟩
          by_cases hjm : j = m
          · subst hjm; exact ⟨j - 1, by omega, by rw [← hk.2]; exact e⟩
          · exact ⟨j, by omega, e⟩
      | true =>
        simp only [if_true]
        refine ⟨?_, fun v => ?_⟩
        · refine List.pairwise_append.2 ⟨i1, by simp, fun a ha b hb => ?_⟩
          obtain rfl := List.mem_singleton.1 hb
          obtain ⟨j, hj, rfl⟩ := (i2 a).1 ha
          simp only [Lib.keeps, decide_eq_true_eq] at hk
          rcases hk with hk | hk
          · omega
          · have q1 := hle j (m - 1) (by omega) (by omega)
            have q2 := hle (m - 1) m (by omega) (by omega)
            omega
        · rw [List.mem_append, i2 v, List.mem_singleton]
          constructor
          · rintro (⟨j, hj, e⟩ | e)
            · exact ⟨j, by omega, e⟩
            · exact ⟨m, by omega, e.symm⟩
          · rintro ⟨j, hj, e⟩
            by_cases hjm : j = m
            · subst hjm; exact .inr e.symm
            · exact .inl ⟨j, by omega, e⟩
  obtain ⟨k1, k2⟩ := key l.length (Nat.le_refl _)
  refine ⟨k1, fun v => ?_⟩
  show v ∈ Lib.compactUpTo l.toArray l.length ↔ _
  rw [k2 v]
  constructor
  · rintro ⟨j, hj, rfl⟩; rw [hg j hj]; exact List.getElem_mem _
  · intro hv
    obtain ⟨j, hj, e⟩ := List.getElem_of_mem hv
    exact ⟨j, hj, by rw [hg j hj]; exact e⟩
theorem sort_pair (l : List Int) : (l.mergeSort fun x y => decide (x ≤ y)).Pairwise (· ≤ ·) := by
  have := List.pairwise_mergeSort (le := fun x y : Int => decide (x ≤ y)) (fun a b c h1 h2 => by simp at *; omega) (fun a b => by simp; omega) l
  exact this.imp (by simp)
theorem kept_is (x : Rc) (vs : List Int) : Lib.compact ((numsP x vs).mergeSort fun x y => decide (x ≤ y)) = keptB x vs := by
  obtain ⟨h1, h2⟩ := compact_rising _ (sort_pair (numsP x vs))
  obtain ⟨h3, h4⟩ := kept_rising x vs
  refine rising_eq h1 h3 fun v => ?_
  rw [h2 v, h4 v, List.mem_mergeSort]
theorem rising_le {l : List Int} (h : Rising l) : l.Pairwise (· ≤ ·) := h.imp (fun h => Int.le_of_lt h)
theorem countP_idx (k : List Int) (v : Int) : ((k.countP (· < v) : Nat) : Int) = idxB k v := by
  rw [idxB, List.countP_eq_length_filter]
/-- A row whose head is laid anew. -/
theorem own_putRow {w : World} {base g n cap : Nat} {xs : List Value} (h : w.ownsRow base 3 1 (.slice (some ⟨g, 0, none⟩) n cap) n xs) (q : Nat) (l : List Int) (hl : l.length = n) (m : Nat) (hm : m ≤ n) :
    (Sort.putRow (Value.int .i64) (Sort.ahead w q) g 0 l.toArray).ownsRow base 3 1 (.slice (some ⟨g, 0, none⟩) m cap) m (itRow (l.take m)) := by
  refine ⟨by simp [itRow]; omega, ?_⟩
  rcases h.2 with ⟨hv, _⟩ | ⟨g', cap', cur, hv, hb, hg, h1, h2, h3, h4⟩
  · cases hv
  · cases hv
    refine .inr ⟨g, cap, Sort.putCells (Value.int .i64) 0 l.toArray cur, rfl, hb, ?_, by omega, h2, ?_, ?_⟩
    · simp [Sort.putRow, Sort.mapBlock, Sort.ahead, Array.getElem?_modify, hg, Sort.onCells]
    · simp [Sort.putCells, h3]
    · apply List.ext_getElem
      · simp [Sort.putCells, itRow, h3]; omega
      · intro i q1 q2
        have hi : i < m := by simp [itRow] at q2; omega
        have hi2 : i < l.length := by omega
        simp [Sort.putCells, itRow, hi2]
theorem grown_putRow {α : Type} [Inhabited α] (w : World) (q g off : Nat) (enc : α → Value) (d : Array α) : w.grownBy (Sort.putRow enc (Sort.ahead w q) g off d) (some g) := by
  refine ⟨rfl, rfl, rfl, by simp, fun k _ hk => ?_⟩
  simp only [Sort.putRow, Sort.mapBlock, Sort.ahead, Array.getElem?_modify]
  rw [if_neg (fun e => hk (by rw [e]))]
theorem own_holds {w : World} {base g n cap : Nat} {zs : List Int} (h : w.ownsRow base 3 1 (.slice (some ⟨g, 0, none⟩) n cap) n (itRow zs)) : Sort.Holds (Value.int .i64) w g 0 zs.toArray := by
  intro j hj
  have hj2 : j < zs.length := by simpa using hj
  rw [Nat.zero_add]
  exact owned_cells h j _ (by simp [itRow, hj2, getElem!_pos])
theorem sort_calls (zs : List Int) (base g n cap : Nat) (w : World) (h : w.ownsRow base 3 1 (.slice (some ⟨g, 0, none⟩) n cap) n (itRow zs)) (hn : n ≤ 100000) :
    Calls Try.prog 33 #[.slice (some ⟨g, 0, none⟩) n cap] w fun e w' => e = .returned (.tuple #[]) ∧ w'.ownsRow base 3 1 (.slice (some ⟨g, 0, none⟩) n cap) n (itRow (zs.mergeSort fun x y => decide (x ≤ y))) ∧ w.grownBy w' (some g) := by
  have hl : zs.length = n := by have := h.1; simp [itRow] at this; exact this
  have hg : g < w.heap.size := by
    rcases h.2 with ⟨hv, _⟩ | ⟨g', cap', cur, hv, hb, hg, _⟩
    · cases hv
    · cases hv; exact lt_block hg
  have c := Try.slices_Sort_int g 0 cap zs w (own_holds h) hg (by omega)
  rw [hl] at c
  refine c.mono ?_
  rintro e w' ⟨rfl, q, os, rfl⟩
  refine ⟨rfl, ?_, ?_⟩
  · have h1 := own_putRow h q (zs.mergeSort fun x y => decide (x ≤ y)) (by simp [hl]) n (Nat.le_refl _)
    rw [List.take_of_length_le (by simp [hl])] at h1
    refine owned_of_block h1 fun k _ hk hc => Sort.heap_grow_old _ _ (lt_block hc)
  · have h2 := grown_putRow w q g 0 (Value.int .i64) (zs.mergeSort fun x y => decide (x ≤ y)).toArray
    exact ⟨h2.os, h2.tape, h2.output, by simp, fun k hk hr => (Sort.heap_grow_old _ _ (by simpa using hk)).trans (h2.block k hk hr)⟩
theorem compact_le (l : List Int) : (Lib.compact l).length ≤ l.length := by
  unfold Lib.compact Lib.compactUpTo
  rw [List.length_map]
  refine Nat.le_trans (List.length_filter_le _ _) (by simp)
theorem compact_calls (zs : List Int) (base g n cap : Nat) (w : World) (h : w.ownsRow base 3 1 (.slice (some ⟨g, 0, none⟩) n cap) n (itRow zs)) (hn : n ≤ 100000) :
    Calls Try.prog 34 #[.slice (some ⟨g, 0, none⟩) n cap] w fun e w' => e = .returned (.slice (some ⟨g, 0, none⟩) (Lib.compact zs).length cap) ∧ w'.ownsRow base 3 1 (.slice (some ⟨g, 0, none⟩) (Lib.compact zs).length cap) (Lib.compact zs).length (itRow (Lib.compact zs)) ∧ w.grownBy w' (some g) := by
  have hl : zs.length = n := by have := h.1; simp [itRow] at this; exact this
  have hc : n ≤ cap := by
    rcases h.2 with ⟨hv, _⟩ | ⟨g', cap', cur, hv, hb, hg, h1, _⟩
    · cases hv
    · cases hv; exact h1
  have c := Try.slices_Compact_int g 0 cap zs w (own_holds h) (by omega) (by omega)
  rw [hl] at c
  refine c.mono ?_
  rintro e w' ⟨rfl, q, rfl⟩
  have hle := compact_le zs
  refine ⟨rfl, ?_, grown_putRow _ _ _ _ _ _⟩
  have h1 := own_putRow h q (Lib.compact zs ++ List.replicate (n - (Lib.compact zs).length) 0) (by simp; omega) (Lib.compact zs).length (by omega)
  rw [List.take_left] at h1
  exact h1
theorem search_calls (zs : List Int) (base g n cap : Nat) (v : Int) (w : World) (h : w.ownsRow base 3 1 (.slice (some ⟨g, 0, none⟩) n cap) n (itRow zs)) (hn : n ≤ 100000) (hs : Rising zs) :
    Calls Try.prog 35 #[.slice (some ⟨g, 0, none⟩) n cap, .int .i64 v] w fun e w' => (∃ b, e = .returned (.tuple #[.int .i64 (idxB zs v), .bool b])) ∧ ∃ q, w' = w.drewN q := by
  have hl : zs.length = n := by have := h.1; simp [itRow] at this; exact this
  have c := Try.slices_BinarySearch_int g 0 n cap zs v w (by omega) (by omega) (fun j hj => by
    have := (own_holds h j (by simpa using hj)).1
    rw [this]; simp [getElem!_pos, hj]) (by rw [List.take_of_length_le (by omega)]; exact rising_le hs)
  refine c.mono ?_
  rintro e w' ⟨rfl, q, rfl⟩
  rw [List.take_of_length_le (by omega), countP_idx]
  exact ⟨⟨_, rfl⟩, q, rfl⟩
end Go.Proofs.Ytolehoibpnenlab
