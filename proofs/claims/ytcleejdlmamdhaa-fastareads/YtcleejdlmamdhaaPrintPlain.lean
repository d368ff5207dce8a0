/-
  What is written, as plain lists of bytes.
-/
import Derived.Test.YtcleejdlmamdhaaPlain
namespace Go.Proofs.Ytcleejdlmamdhaa

/-- Letters in lines of w: j of a line's letters are written already. -/
def chunkGo (w : Nat) (j : Nat) : List UInt8 → List UInt8
  | [] => []
  | c :: r => c :: (if j + 1 = w ∨ r = [] then 10 :: chunkGo w 0 r else chunkGo w (j + 1) r)
def titleLine (q : Pq) : List UInt8 := 62 :: (joinB q.1 q.2.1 ++ [10])
def seqB (w : Nat) (q : Pq) : List UInt8 := titleLine q ++ chunkGo w 0 q.2.2
def okB (q : Pq) : Bool := nameB q.1 && (noteB q.2.1 && basesB q.2.2)
def okGo (seen : List Pq) : List Pq → Bool
  | [] => true
  | q :: r => okB q && (!namedB seen q.1 && okGo (seen ++ [q]) r)
def allB (w : Nat) (l : List Pq) : List UInt8 := (l.map (seqB w)).flatten
def printB (w : Int) (l : List Pq) : List UInt8 × Nat :=
  if w < 1 ∨ 200 < w then ([], 1)
  else if 64 < l.length then ([], 2)
  else if okGo [] l = false then ([], 20)
  else if 1048576 < (allB w.toNat l).length then ([], 2)
  else (allB w.toNat l, 0)

theorem chunk_go (w : Nat) : ∀ (l : List UInt8) (j : Nat), j < w → l ≠ [] → chunkGo w j l = l.take (w - j) ++ 10 :: chunkGo w 0 (l.drop (w - j))
  | c :: r, j, hj, _ => by
    show c :: (if j + 1 = w ∨ r = [] then 10 :: chunkGo w 0 r else chunkGo w (j + 1) r) = _
    by_cases h : j + 1 = w
    · rw [if_pos (.inl h), show w - j = 1 by omega]; rfl
    · by_cases hr : r = []
      · subst hr
        rw [if_pos (.inr rfl)]
        obtain ⟨d, hd⟩ : ∃ d, w - j = d + 1 := ⟨w - j - 1, by omega⟩
        rw [hd]; simp [chunkGo]
      · rw [if_neg (fun h1 => h1.elim h hr), chunk_go w r (j + 1) (by omega) hr]
        obtain ⟨d, hd⟩ : ∃ d, w - j = d + 1 := ⟨w - j - 1, by omega⟩
        rw [hd, show w - (j + 1) = d by omega]; rfl
theorem chunk_step (w : Nat) (hw : 0 < w) (l : List UInt8) (h : l ≠ []) : chunkGo w 0 l = l.take w ++ 10 :: chunkGo w 0 (l.drop w) := by
  have := chunk_go w l 0 hw h; simpa using this
theorem chunk_length (w : Nat) : ∀ (l : List UInt8) (j : Nat), (chunkGo w j l).length ≤ 2 * l.length
  | [], _ => by simp [chunkGo]
  | c :: r, j => by
    show (c :: (if j + 1 = w ∨ r = [] then 10 :: chunkGo w 0 r else chunkGo w (j + 1) r)).length ≤ _
    split
    · have := chunk_length w r 0; simp; omega
    · have := chunk_length w r (j + 1); simp; omega
theorem join_length (a b : List UInt8) : (joinB a b).length ≤ a.length + b.length + 1 := by
  unfold joinB
  split
  · omega
  · simp; omega
theorem seqB_length (w : Nat) (q : Pq) (h : okB q = true) : (seqB w q).length ≤ 131300 := by
  simp only [okB, nameB, noteB, basesB, Bool.and_eq_true, decide_eq_true_eq] at h
  have h1 := chunk_length w q.2.2 0
  have h2 := join_length q.1 q.2.1
  simp only [seqB, titleLine, List.length_append, List.length_cons, List.length_nil]
  omega
theorem okGo_split (l : List Pq) : ∀ (seen : List Pq) (k : Nat) (q : Pq), l[k]? = some q → okGo seen l = true → okB q = true := by
  induction l with
  | nil => intro seen k q h; simp at h
  | cons p r ih =>
    intro seen k q h ho
    simp only [okGo, Bool.and_eq_true] at ho
    cases k with
    | zero => simp at h; subst h; exact ho.1
    | succ k => exact ih _ k q (by simpa using h) ho.2.2
end Go.Proofs.Ytcleejdlmamdhaa
