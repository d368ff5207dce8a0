/-
  How long the line of a right record may be; what is written of references and records, if nothing is.
-/
import Derived.Test.YtdhphipdpjhhbaaGreatDoorJoin
namespace Go.Proofs.YtdhphipdpjhhbaaGreatDoor

theorem dec_le (n : Nat) : 1 ≤ n → (Lib.decDigits n).length ≤ n := by
  induction n using Nat.strongRecOn with
  | ind n ih =>
    intro h1
    unfold Lib.decDigits
    split
    · simpa using h1
    · rename_i h
      have := ih (n / 10) (by omega) (by omega)
      rw [List.length_append, List.length_singleton]
      omega
theorem refB_add (l : List Rn) : ∀ a : Int, l.foldl (fun x (r : Rn) => if r.1 = 77 ∨ r.1 = 68 then x + r.2 else x) a = a + refB l := by
  unfold refB
  induction l with
  | nil => intro a; simp
  | cons r l ih =>
    intro a
    simp only [List.foldl_cons]
    rw [ih, ih (if r.1 = 77 ∨ r.1 = 68 then 0 + r.2 else 0)]
    split <;> omega
theorem readB_add (l : List Rn) : ∀ a : Int, l.foldl (fun y (r : Rn) => if r.1 = 68 then y else y + r.2) a = a + readB l := by
  unfold readB
  induction l with
  | nil => intro a; simp
  | cons r l ih =>
    intro a
    simp only [List.foldl_cons]
    rw [ih, ih (if r.1 = 68 then 0 else 0 + r.2)]
    split <;> omega
theorem refB_cons (r : Rn) (l : List Rn) : refB (r :: l) = (if r.1 = 77 ∨ r.1 = 68 then r.2 else 0) + refB l := by
  show List.foldl _ _ _ = _
  rw [List.foldl_cons, refB_add]
  split <;> omega
theorem readB_cons (r : Rn) (l : List Rn) : readB (r :: l) = (if r.1 = 68 then 0 else r.2) + readB l := by
  show List.foldl _ _ _ = _
  rw [List.foldl_cons, readB_add]
  split <;> omega
theorem text_tot : ∀ (l : List Rn), (∀ r ∈ l, 1 ≤ r.2) → ((textB l).length : Int) ≤ 2 * (refB l + readB l)
  | [], _ => by simp [textB, refB, readB]
  | r :: l, h => by
    have ih := text_tot l (fun x hx => h x (by simp [hx]))
    have h1 := h r (by simp)
    have h2 := dec_le r.2.toNat (by omega)
    have e : textB (r :: l) = Lib.decDigits r.2.toNat ++ (r.1 :: textB l) := by simp [textB]
    rw [e, refB_cons, readB_cons]
    simp only [List.length_append, List.length_cons]
    by_cases h68 : r.1 = 68
    · rw [if_pos (.inr h68), if_pos h68]; omega
    · rw [if_neg h68]
      split <;> omega
theorem join_sum {c : UInt8} : ∀ (l : List (List UInt8)), (Lib.join l [c]).length ≤ (l.map List.length).sum + l.length
  | [] => by simp [Lib.join_nil]
  | [x] => by rw [Lib.join_one]; simp
  | x :: y :: r => by
    rw [join_two]
    have h1 := join_sum (c := c) (y :: r)
    simp only [List.length_append, List.length_cons, List.map_cons, List.sum_cons] at h1 ⊢
    omega
theorem lineR_fit {r : Rec} (h : rightR r = true) (hs : fit64 r.score) : (lineR r).length ≤ 1048576 := by
  have h1 := rightR_read h
  have hn := name_short h1.name
  have hb : r.bases.length ≤ 65536 := by
    have := h1.bases
    simp only [basesB, Bool.and_eq_true, decide_eq_true_eq] at this
    exact this.2.1
  have hq : r.quals.length ≤ 65536 := by rw [h1.long]; exact hb
  have hsc := Lib.itoa_length_le r.score hs.1 hs.2
  unfold lineR tabs
  refine Nat.le_trans (join_sum _) ?_
  unfold fieldsF elevenF
  cases hm : r.mapped with
  | false =>
    simp [flagF, refF, posF, qualF, runsF, hm]
    omega
  | true =>
    have h2 := rightR_map h hm
    have hr := name_short h2.ref
    have hp := Lib.itoa_length_le r.pos h2.pos_fit.1 h2.pos_fit.2
    have h3 := text_tot r.runs (fun x hx => (right_each h2.runs x hx).2.1)
    have h4 := h2.all
    have h5 := h2.ends
    have h6 := h2.pos
    have ht : (textA r.runs).1.length ≤ 262144 := by
      rw [textA, if_pos h2.runs]
      by_cases h0 : r.runs = []
      · rw [h0]; simp
      · simp only [if_neg h0]; omega
    simp [flagF, refF, posF, qualF, runsF, hm, scoreT]
    omega
theorem printF_none {refs : List Sqp} {l : List Rec} (h : (printF refs l).2 ≠ 0) : (printF refs l).1 = [] := by
  unfold printF at h ⊢
  split
  · rfl
  · split
    · rfl
    · rename_i h1 _ k hk
      rw [if_neg h1, hk] at h
      simp only at h
      split
      · rfl
      · rename_i h2
        rw [if_neg h2] at h
        split
        · rfl
        · rename_i h3
          rw [if_neg h3] at h
          exact absurd rfl h
end Go.Proofs.YtdhphipdpjhhbaaGreatDoor
