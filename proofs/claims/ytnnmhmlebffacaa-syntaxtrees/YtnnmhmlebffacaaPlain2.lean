/-
  What the tokens of a source are: their numbers, their texts, their places.
-/
import Derived.Test.YtnnmhmlebffacaaMem
namespace Go.Proofs.Ytnnmhmlebffacaa

theorem numGo_le : ∀ (s : List UInt8) (n m : Nat), numGo n s = some m → n ≤ maxC → m ≤ maxC
  | [], n, m, h, hn => by simp [numGo] at h; omega
  | c :: r, n, m, h, _ => by
    rw [numGo] at h
    split at h
    · split at h
      · cases h
      · exact numGo_le r _ m h (by omega)
    · cases h
theorem numO_le {s : List UInt8} {m : Nat} (h : numO s = some m) : m ≤ maxC := by
  unfold numO at h
  split at h
  · cases h
  · exact numGo_le s 0 m h (Nat.zero_le _)
theorem numB_le (s : List UInt8) : numB s ≤ 72057594037927936 := by
  cases s with
  | nil => simp [numB]
  | cons c r =>
    simp only [numB]
    split
    · cases h : numO (runB (c :: r)) with
      | none => simp
      | some m => have := numO_le h; unfold maxC at this; simpa using this
    · omega
theorem kindB_range (s : List UInt8) : 0 ≤ kindB s ∧ kindB s ≤ 6 := by
  cases s with
  | nil => simp [kindB]
  | cons c r =>
    simp only [kindB]
    repeat' split
    all_goals omega
theorem textB_le {s : List UInt8} (hs : s ≠ []) (he : errB s = 0) : (textB s).length ≤ s.length := by
  cases s with
  | nil => exact absurd rfl hs
  | cons c r =>
    simp only [textB]
    have h1 := runB_le (c :: r)
    have h2 := innerB_le r
    simp only [List.length_cons] at h1 ⊢
    split
    · simp
    · rename_i hd
      split
      · omega
      · rename_i hp
        split
        · omega
        · rename_i h34
          split
          · simp
          · rename_i hm
            simp only [errB, hd, hp, h34, hm] at he
            cases r with
            | nil => simp at he
            | cons d r => simp
theorem tkB_ok {s : List UInt8} {p : Nat} (h : p + s.length ≤ 4000) (hs : s ≠ []) (he : errB s = 0) : TkOk (tkB s p) := by
  refine ⟨?_, ?_, ?_, ?_⟩
  · have := kindB_range s; show -10 ≤ kindB s ∧ kindB s ≤ 10; omega
  · have := numB_le s; show 0 ≤ ((numB s : Nat) : Int) ∧ ((numB s : Nat) : Int) ≤ 72057594037927936; omega
  · have := textB_le hs he; show (textB s).length ≤ 4000; omega
  · show p ≤ 4000; omega
theorem skip_add (s : List UInt8) (p n : Nat) (h : p + s.length ≤ 4000) (hn : n ≤ s.length) : p + n + skipB (s.drop n) + (s.drop (n + skipB (s.drop n))).length ≤ 4000 := by
  have h1 := skipB_le (s.drop n)
  rw [List.length_drop] at h1 ⊢
  omega
theorem tok_all : ∀ (f p : Nat) (s : List UInt8), p + s.length ≤ 4000 → ∀ t ∈ (tokGo f p s).1, TkOk t
  | 0, p, s, _, t, ht => by simp [tokGo] at ht
  | f + 1, p, s, h, t, ht => by
    rw [tokGo] at ht
    split at ht
    · cases ht
    · rename_i hs
      split at ht
      · cases ht
      · rename_i he
        have he' : errB s = 0 := by simpa using he
        rcases List.mem_cons.1 ht with rfl | ht
        · exact tkB_ok h hs he'
        · exact tok_all f _ _ (skip_add s p _ h (lenB_le hs he')) t ht
theorem tok_few : ∀ (f p : Nat) (s : List UInt8), (tokGo f p s).1.length ≤ s.length
  | 0, p, s => by simp [tokGo]
  | f + 1, p, s => by
    rw [tokGo]
    split
    · simp
    · rename_i hs
      split
      · simp
      · rename_i he
        have he' : errB s = 0 := by simpa using he
        have h1 := tok_few f (p + lenB s + skipB (s.drop (lenB s))) (s.drop (lenB s + skipB (s.drop (lenB s))))
        have h2 := lenB_pos hs
        have h3 := lenB_le hs he'
        rw [List.length_drop] at h1
        simp only [List.length_cons]
        omega
theorem scan_ok (S : List UInt8) : ∀ t ∈ (scanB S).1, TkOk t := by
  intro t ht
  unfold scanB at ht
  split at ht
  · cases ht
  · rename_i hl
    unfold finB at ht
    split at ht
    · simp only [List.mem_append, List.mem_singleton] at ht
      rcases ht with ht | rfl
      · refine tok_all _ _ _ ?_ t ht
        rw [List.length_drop]
        have := skipB_le S
        omega
      · exact ⟨by simp [endTk], by simp [endTk], by simp [endTk], by simp [endTk]; omega⟩
    · cases ht
theorem scan_few (S : List UInt8) : (scanB S).1.length ≤ 4001 := by
  unfold scanB
  split
  · simp
  · rename_i hl
    unfold finB
    split
    · have h := tok_few (S.drop (skipB S)).length (skipB S) (S.drop (skipB S))
      simp only [List.length_append, List.length_singleton]
      have h2 : (S.drop (skipB S)).length ≤ S.length := by rw [List.length_drop]; omega
      unfold tokB
      omega
    · simp
end Go.Proofs.Ytnnmhmlebffacaa
