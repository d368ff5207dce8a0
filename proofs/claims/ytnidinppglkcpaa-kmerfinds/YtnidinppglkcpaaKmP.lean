/-
  Words of references in plain lists: the places of each word, the words in order.
-/
import Derived.Test.YtnidinppglkcpaaMem
import Derived.Sort.Walk0
import Derived.Sort.EncStr
namespace Go.Proofs.Ytnidinppglkcpaa

abbrev Wd := List UInt8
abbrev Pl := Int × Int
/-- A word, and where it stands. -/
abbrev Oc := Wd × Pl
def oc1 (k r : Nat) (s : Wd) (a : Nat) : Oc := ((s.drop a).take k, ((r : Int), (a : Int)))
/-- The words of a reference, by rising places. -/
def occ1 (k r : Nat) (s : Wd) : List Oc := (List.range (s.length + 1 - k)).map (oc1 k r s)
/-- The words of references, the first of them with number r. -/
def occ (k : Nat) : Nat → List Wd → List Oc
  | _, [] => []
  | r, s :: l => occ1 k r s ++ occ k (r + 1) l
def plsOf (L : List Oc) (w : Wd) : List Pl := (L.filter fun o => o.1 == w).map (·.2)
/-- A word more among those that rise. -/
def insW (w : Wd) : List Wd → List Wd
  | [] => [w]
  | a :: r => if a < w then a :: insW w r else if a = w then a :: r else w :: a :: r
def wdsOf (L : List Oc) : List Wd := L.foldl (fun acc o => insW o.1 acc) []
def Up (l : List Wd) : Prop := l.Pairwise (· < ·)

theorem occ_snoc (k : Nat) : ∀ (l : List Wd) (r : Nat) (s : Wd), occ k r (l ++ [s]) = occ k r l ++ occ1 k (r + l.length) s
  | [], r, s => by simp [occ]
  | a :: l, r, s => by
    rw [List.cons_append, occ, occ, occ_snoc k l (r + 1) s, List.append_assoc]
    congr 3
    simp; omega
theorem occ_append (k : Nat) : ∀ (l m : List Wd) (r : Nat), occ k r (l ++ m) = occ k r l ++ occ k (r + l.length) m
  | [], m, r => by simp [occ]
  | a :: l, m, r => by
    rw [List.cons_append, occ, occ, occ_append k l m (r + 1), List.append_assoc]
    congr 3
    simp; omega
theorem occ1_len (k r : Nat) (s : Wd) : (occ1 k r s).length = s.length + 1 - k := by simp [occ1]
theorem occ1_zero (k r : Nat) (s : Wd) (h : s.length + 1 ≤ k) : occ1 k r s = [] := by
  have : s.length + 1 - k = 0 := by omega
  simp [occ1, this]
def total (l : List Wd) : Nat := (l.map List.length).sum
theorem total_snoc (l : List Wd) (s : Wd) : total (l ++ [s]) = total l + s.length := by simp [total]
theorem total_cons (l : List Wd) (s : Wd) : total (s :: l) = s.length + total l := by simp [total]
theorem occ_len_le (k : Nat) (hk : 1 ≤ k) : ∀ (l : List Wd) (r : Nat), (occ k r l).length ≤ total l
  | [], _ => by simp [occ]
  | a :: l, r => by
    have := occ_len_le k hk l (r + 1)
    rw [occ, List.length_append, occ1_len, total_cons]
    omega
theorem occ1_mem {k r : Nat} {s : Wd} {o : Oc} (h : o ∈ occ1 k r s) : ∃ a, a + k ≤ s.length ∧ o = oc1 k r s a := by
  simp only [occ1, List.mem_map, List.mem_range] at h
  obtain ⟨a, ha, rfl⟩ := h
  exact ⟨a, by omega, rfl⟩
theorem oc1_len {k r : Nat} {s : Wd} {a : Nat} (h : a + k ≤ s.length) : (oc1 k r s a).1.length = k := by
  simp [oc1]; omega
theorem occ_word_len {k : Nat} : ∀ {l : List Wd} {r : Nat} {o : Oc}, o ∈ occ k r l → o.1.length = k
  | [], _, _, h => by simp [occ] at h
  | a :: l, r, o, h => by
    rw [occ, List.mem_append] at h
    rcases h with h | h
    · obtain ⟨i, hi, rfl⟩ := occ1_mem h; exact oc1_len hi
    · exact occ_word_len h

theorem pls_append (L M : List Oc) (w : Wd) : plsOf (L ++ M) w = plsOf L w ++ plsOf M w := by simp [plsOf]
theorem pls_snoc (L : List Oc) (o : Oc) (w : Wd) : plsOf (L ++ [o]) w = if o.1 = w then plsOf L w ++ [o.2] else plsOf L w := by
  rw [pls_append]
  by_cases h : o.1 = w
  · rw [if_pos h]; simp [plsOf, h]
  · rw [if_neg h]; simp [plsOf, h]
theorem pls_len (L : List Oc) (w : Wd) : (plsOf L w).length ≤ L.length := by
  simp only [plsOf, List.length_map]
  exact List.length_filter_le _ _
theorem pls_ne_nil {L : List Oc} {w : Wd} : plsOf L w ≠ [] ↔ ∃ o ∈ L, o.1 = w := by
  simp [plsOf]

theorem lt_irr (a : Wd) : ¬ a < a := List.lt_irrefl a
theorem lt_tr {a b c : Wd} (h : a < b) (k : b < c) : a < c := List.lt_trans h k
theorem lt_as {a b : Wd} (h : a < b) : ¬ b < a := List.lt_asymm h
theorem ge_of {a b : Wd} (h1 : ¬ a < b) (h2 : a ≠ b) : b < a := by
  rcases List.le_total a b with h | h
  · exact absurd (List.le_antisymm h (List.not_lt.1 h1)) h2
  · exact Classical.byContradiction fun h3 => h2 (List.le_antisymm (List.not_lt.1 h3) (List.not_lt.1 h1))
theorem ins_mem (w : Wd) : ∀ (l : List Wd) (x : Wd), x ∈ insW w l ↔ x = w ∨ x ∈ l
  | [], x => by simp [insW]
  | a :: r, x => by
    rw [insW]
    split
    · rw [List.mem_cons, ins_mem w r x, List.mem_cons]
      constructor
      · rintro (h | h | h)
        · exact .inr (.inl h)
        · exact .inl h
        · exact .inr (.inr h)
      · rintro (h | h | h)
        · exact .inr (.inl h)
        · exact .inl h
        · exact .inr (.inr h)
    · split
      · rename_i h; subst h; simp
      · simp
theorem ins_up (w : Wd) : ∀ (l : List Wd), Up l → Up (insW w l)
  | [], _ => by simp [insW, Up]
  | a :: r, h => by
    obtain ⟨h1, h2⟩ := List.pairwise_cons.1 h
    rw [insW]
    split
    · rename_i hl
      refine List.pairwise_cons.2 ⟨fun x hx => ?_, ins_up w r h2⟩
      rcases (ins_mem w r x).1 hx with rfl | hx
      · exact hl
      · exact h1 x hx
    · split
      · exact h
      · rename_i hl hne
        have hwa := ge_of hl hne
        refine List.pairwise_cons.2 ⟨fun x hx => ?_, h⟩
        rcases List.mem_cons.1 hx with rfl | hx
        · exact hwa
        · exact lt_tr hwa (h1 x hx)
theorem wds_go (L : List Oc) : ∀ (acc : List Wd), Up acc → Up (L.foldl (fun acc o => insW o.1 acc) acc) ∧ ∀ x, x ∈ L.foldl (fun acc o => insW o.1 acc) acc ↔ x ∈ acc ∨ ∃ o ∈ L, o.1 = x := by
  induction L with
  | nil => intro acc h; exact ⟨h, fun x => by simp⟩
  | cons o L ih =>
    intro acc h
    obtain ⟨h1, h2⟩ := ih (insW o.1 acc) (ins_up _ _ h)
    refine ⟨h1, fun x => ?_⟩
    rw [List.foldl_cons, h2, ins_mem]
    constructor
    · rintro ((h | h) | ⟨p, hp, h⟩)
      · exact .inr ⟨o, List.mem_cons_self, h.symm⟩
      · exact .inl h
      · exact .inr ⟨p, List.mem_cons_of_mem _ hp, h⟩
    · rintro (h | ⟨p, hp, h⟩)
      · exact .inl (.inr h)
      · rcases List.mem_cons.1 hp with rfl | hp
        · exact .inl (.inl h.symm)
        · exact .inr ⟨p, hp, h⟩
theorem wds_up (L : List Oc) : Up (wdsOf L) := (wds_go L [] List.Pairwise.nil).1
theorem wds_mem (L : List Oc) (x : Wd) : x ∈ wdsOf L ↔ ∃ o ∈ L, o.1 = x := by
  have := (wds_go L [] List.Pairwise.nil).2 x
  simpa [wdsOf] using this
theorem wds_snoc (L : List Oc) (o : Oc) : wdsOf (L ++ [o]) = insW o.1 (wdsOf L) := by simp [wdsOf]
theorem wds_append (L M : List Oc) : wdsOf (L ++ M) = M.foldl (fun acc o => insW o.1 acc) (wdsOf L) := by simp [wdsOf]
theorem ins_len (w : Wd) : ∀ (l : List Wd), (insW w l).length ≤ l.length + 1
  | [] => by simp [insW]
  | a :: r => by
    have := ins_len w r
    rw [insW]
    split
    · simp; omega
    · split <;> simp
theorem wds_len (L : List Oc) : (wdsOf L).length ≤ L.length := by
  have key : ∀ (L : List Oc) (acc : List Wd), (L.foldl (fun acc o => insW o.1 acc) acc).length ≤ acc.length + L.length := by
    intro L
    induction L with
    | nil => intro acc; simp
    | cons o L ih =>
      intro acc
      have := ih (insW o.1 acc)
      have := ins_len o.1 acc
      rw [List.foldl_cons, List.length_cons]; omega
  have := key L []
  simpa [wdsOf] using this
/-- Two rising lists of the same members are one. -/
theorem up_ext : ∀ {l m : List Wd}, Up l → Up m → (∀ x, x ∈ l ↔ x ∈ m) → l = m
  | [], [], _, _, _ => rfl
  | [], b :: s, _, _, h => by have := (h b).2 (by simp); simp at this
  | a :: r, [], _, _, h => by have := (h a).1 (by simp); simp at this
  | a :: r, b :: s, h1, h2, h => by
    obtain ⟨a1, a2⟩ := List.pairwise_cons.1 h1
    obtain ⟨b1, b2⟩ := List.pairwise_cons.1 h2
    have hab : a = b := by
      rcases List.mem_cons.1 ((h a).1 (by simp)) with e | ha
      · exact e
      · rcases List.mem_cons.1 ((h b).2 (by simp)) with e | hb
        · exact e.symm
        · exact absurd (a1 b hb) (lt_as (b1 a ha))
    subst hab
    rw [up_ext a2 b2 fun x => ⟨fun hx => by
      rcases List.mem_cons.1 ((h x).1 (by simp [hx])) with e | hx'
      · subst e; exact absurd (a1 _ hx) (lt_irr _)
      · exact hx', fun hx => by
      rcases List.mem_cons.1 ((h x).2 (by simp [hx])) with e | hx'
      · subst e; exact absurd (b1 _ hx) (lt_irr _)
      · exact hx'⟩]
/-- What was collected in any order, sorted, are the words. -/
theorem sort_wds {L : List Oc} {ws : List Wd} (hn : ws.Nodup) (hm : ∀ x, x ∈ ws ↔ ∃ o ∈ L, o.1 = x) : ws.mergeSort (fun x y => decide (x ≤ y)) = wdsOf L := by
  have tr : ∀ a b c : Wd, decide (a ≤ b) = true → decide (b ≤ c) = true → decide (a ≤ c) = true := fun a b c h1 h2 => by simp only [decide_eq_true_eq] at *; exact List.le_trans h1 h2
  have to : ∀ a b : Wd, (decide (a ≤ b) || decide (b ≤ a)) = true := fun a b => by simp only [Bool.or_eq_true, decide_eq_true_eq]; exact List.le_total a b
  have hs := List.pairwise_mergeSort tr to ws
  have hp := List.mergeSort_perm ws (fun x y => decide (x ≤ y))
  have hnd : (ws.mergeSort (fun x y => decide (x ≤ y))).Nodup := hp.nodup_iff.2 hn
  refine up_ext ?_ (wds_up L) fun x => ?_
  · refine (hs.and hnd).imp ?_
    rintro a b ⟨h1, h2⟩
    have h1' : a ≤ b := by simpa using h1
    exact Classical.byContradiction fun h3 => h2 (List.le_antisymm h1' (List.not_lt.1 h3))
  · rw [hp.mem_iff, hm, wds_mem]
theorem wds_nodup (L : List Oc) : (wdsOf L).Nodup := (wds_up L).imp fun h e => by subst e; exact lt_irr _ h
theorem awake_wds : wdsOf (occ 2 0 [[65, 66, 65, 66], [66], [66, 65]]) = [[65, 66], [66, 65]] := by decide +kernel
theorem awake_pls : plsOf (occ 2 0 [[65, 66, 65, 66], [66], [66, 65]]) [65, 66] = [(0, 0), (0, 2)] := by decide +kernel
theorem awake_len : (occ 2 0 [[65, 66, 65, 66], [66], [66, 65]]).length = 4 := by decide +kernel
end Go.Proofs.Ytnidinppglkcpaa
