/-
  The tokens of a source are right.
-/
import Derived.Test.YtnnmhmlebffacaaRgtQ
namespace Go.Proofs.Ytnnmhmlebffacaa
open Go.RowKit Go.Deep

theorem inner_all : ∀ (r : List UInt8), ∀ c ∈ innerB r, c ≠ 34
  | [], c, h => by simp [innerB] at h
  | d :: r, c, h => by
    unfold innerB at h
    rw [List.takeWhile_cons] at h
    split at h
    · rename_i hd
      rcases List.mem_cons.1 h with rfl | h
      · simpa using hd
      · exact inner_all r c h
    · cases h
theorem inner_id : ∀ (a : List UInt8), (∀ c ∈ a, c ≠ 34) → innerB (a ++ [34]) = a
  | [], _ => rfl
  | d :: a, h => by
    have h1 := inner_id a fun c hc => h c (by simp [hc])
    have h2 := h d (by simp)
    unfold innerB at h1 ⊢
    rw [List.cons_append, List.takeWhile_cons, if_pos (by simpa using h2), h1]
theorem tx_of {r : List UInt8} (h : textOk r = true) : txB (innerB r) = true := by
  have hh := h
  unfold textOk at hh
  simp only [Bool.and_eq_true, decide_eq_true_eq] at hh
  have hid := inner_id (innerB r) (inner_all r)
  have ht2 : textOk (innerB r ++ [34]) = true := by
    unfold textOk
    rw [hid]
    simp [hh.2.1, hh.2.2]
  generalize innerB r = a at *
  have hq : (34 :: a ++ [34] : List UInt8) = 34 :: (a ++ [34]) := rfl
  have hs : (34 :: a ++ [34] : List UInt8) ≠ [] := by simp
  have he : errB (34 :: a ++ [34]) = 0 := by
    rw [hq, errB, if_neg (by decide), if_neg (by decide), if_pos rfl, if_pos ht2]
  have hl : lenB (34 :: a ++ [34]) = (34 :: a ++ [34]).length := by
    rw [hq, lenB, if_neg (by decide), if_pos rfl, hid]; simp
  have ht : textB (34 :: a ++ [34]) = a := by
    rw [hq, textB, if_neg (by decide), if_neg (by decide), if_pos rfl, hid]
  have hsk : skipB (34 :: a ++ [34]) = 0 := by
    rw [hq]; unfold skipB; rw [skipGo, if_neg (by decide), if_neg (by decide), if_neg (by decide)]
  have hd : (34 :: a ++ [34] : List UInt8).drop (34 :: a ++ [34]).length = [] := List.drop_eq_nil_of_le (Nat.le_refl _)
  have htok : tokB 0 (34 :: a ++ [34]) = ([tkB (34 :: a ++ [34]) 0], 0, 0) := by
    rw [tokB_ok hs he, hl, hd]
    have e0 : skipB ([] : List UInt8) = 0 := rfl
    simp only [e0, Nat.add_zero, hd, tokB_nil]
  have hsc : scanB (34 :: a ++ [34]) = ([tkB (34 :: a ++ [34]) 0, endTk (34 :: a ++ [34]).length], 0, 0) := by
    unfold scanB
    rw [if_neg (by have := hh.2.1; simp; omega), hsk, List.drop_zero, htok]
    rfl
  unfold txB
  rw [hsc]
  simp only [headTx, Bool.and_eq_true, decide_eq_true_eq]
  refine ⟨hh.2.1, by first | rfl | trivial, ?_⟩
  exact decide_eq_true (show textB (34 :: a ++ [34]) = a from ht)
theorem good_rt {S : List UInt8} {t : Tk} (h : Good S t) : RTk t := by
  have hi := h.is
  have hr := h.right
  cases hs : S.drop t.pl with
  | nil => exact absurd hs h.some
  | cons c r =>
    rw [hs] at hi hr
    refine ⟨fun _ => ?_, fun hk => ?_, fun hk => ?_⟩
    · have := numB_le (c :: r)
      have e : t.num = ((numB (c :: r) : Nat) : Int) := by rw [hi]; rfl
      rw [e]
      exact ⟨by omega, by omega⟩
    · rcases tk_cases (p := t.pl) (s := c :: r) (by simp) hr with q | q | q | q | q
      · rw [← hi, hk] at q; exact absurd q.1 (by decide)
      · rw [← hi] at q; exact q.2.1
      · rw [← hi, hk] at q; exact absurd q.1 (by decide)
      · rw [← hi, hk] at q; exact absurd q.1 (by decide)
      · rw [← hi, hk] at q; exact absurd q.1 (by decide)
    · have hk5 : kindB (c :: r) = 5 := by rw [hi] at hk; exact hk
      have hc : c = 34 := by
        rw [kindB] at hk5
        by_cases hd : isDig c = true
        · rw [if_pos hd] at hk5; cases hk5
        · rw [if_neg hd] at hk5
          by_cases hp : isPart c = true
          · rw [if_pos hp] at hk5
            split at hk5 <;> cases hk5
          · rw [if_neg hp] at hk5
            by_cases h34 : c = 34
            · exact h34
            · rw [if_neg h34] at hk5; cases hk5
      subst hc
      have ht : t.text = innerB r := by
        rw [hi]
        show textB (34 :: r) = innerB r
        rw [textB, if_neg (by decide), if_neg (by decide), if_pos rfl]
      rw [ht]
      exact tx_of (err_text hr).2
theorem end_rt (n : Nat) : RTk (endTk n) := ⟨(fun h => by cases h), (fun h => by cases h), (fun h => by cases h)⟩
theorem scan_rt {S : List UInt8} (h : (scanB S).2.2 = 0) : ∀ t ∈ (scanB S).1, RTk t := by
  obtain ⟨_, _, T, hT, hg, _⟩ := scan_good h
  intro t ht
  rw [hT] at ht
  rcases List.mem_append.1 ht with h | h
  · exact good_rt (hg t h)
  · rw [List.mem_singleton.1 h]; exact end_rt _
end Go.Proofs.Ytnnmhmlebffacaa
