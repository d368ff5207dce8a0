/-
  Plain facts, with no program in sight: what is told of two texts, one behind the other, out of what is told of each.
-/
import Derived.Test.YtefngikfidlojaaLists
namespace Go.Proofs.Ytefngikfidlojaa

theorem badAt_le (l s : List UInt8) : badAt l s ≤ s.length := by
  unfold badAt; exact (List.takeWhile_sublist _).length_le
theorem encB_ok {l s : List UInt8} {ns : List Int} {pl : Nat} (h : encB l s = (ns, pl, 0)) : rightB l = true ∧ s.length ≤ 65536 ∧ badAt l s = s.length ∧ ns = (s.map fun c => codeOf l (c.toNat : Int)) ∧ pl = 0 := by
  unfold encB at h
  have hb := badAt_le l s
  split at h
  · simp at h
  · split at h
    · simp at h
    · split at h
      · simp at h
      · simp at h
        rename_i h1 h2 h3
        exact ⟨by simpa using h1, by omega, by omega, h.1.symm, h.2.symm⟩
theorem takeWhile_append_full {α : Type} (p : α → Bool) : ∀ (s t : List α), (s.takeWhile p).length = s.length → ((s ++ t).takeWhile p).length = s.length + (t.takeWhile p).length
  | [], t, _ => by simp
  | b :: s, t, h => by
    by_cases hb : p b = true
    · simp only [List.takeWhile_cons, hb, if_true, List.length_cons, List.cons_append] at h ⊢
      have := takeWhile_append_full p s t (by omega)
      omega
    · simp [hb] at h
theorem badAt_append {l s t : List UInt8} (h : badAt l s = s.length) : badAt l (s ++ t) = s.length + badAt l t := takeWhile_append_full _ s t h
theorem encB_long {l s t : List UInt8} (hr : rightB l = true) (hl : 65536 < s.length + t.length) : encB l (s ++ t) = ([], 0, 2) := by
  unfold encB
  rw [hr, if_neg (by decide), if_pos (by simp; omega)]
theorem encB_join {l s t : List UInt8} {ns ms : List Int} {p q : Nat} {f : Int} (h : encB l s = (ns, p, 0)) (hl : s.length + t.length ≤ 65536) (k : encB l t = (ms, q, f)) :
    (f = 0 ∧ encB l (s ++ t) = (ns ++ ms, 0, 0)) ∨ (f = 11 ∧ encB l (s ++ t) = ([], s.length + q, 11)) := by
  obtain ⟨hr, _, hb, rfl, rfl⟩ := encB_ok h
  have hba := badAt_append (t := t) hb
  have hbt := badAt_le l t
  by_cases hf : badAt l t < t.length
  · right
    have e1 : encB l t = ([], badAt l t, 11) := by
      unfold encB
      rw [hr, if_neg (by decide), if_neg (by omega), if_pos hf]
    rw [e1] at k
    cases k
    refine ⟨rfl, ?_⟩
    unfold encB
    rw [hr, if_neg (by decide), if_neg (by simp; omega), hba, if_pos (by simp; omega)]
  · left
    have e1 : encB l t = (t.map fun c => codeOf l (c.toNat : Int), 0, 0) := by
      unfold encB
      rw [hr, if_neg (by decide), if_neg (by omega), if_neg hf]
    rw [e1] at k
    cases k
    refine ⟨rfl, ?_⟩
    unfold encB
    rw [hr, if_neg (by decide), if_neg (by simp; omega), hba, if_neg (by simp; omega)]
    simp

theorem encB_place (l s : List UInt8) : (encB l s).2.1 ≤ s.length := by
  unfold encB
  split
  · simp
  · split
    · simp
    · split
      · exact badAt_le l s
      · simp

end Go.Proofs.Ytefngikfidlojaa
