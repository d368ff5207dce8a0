/-
  The runs of columns, in plain lists: what a column more makes of them, their columns, what they take.
-/
import Derived.Test.YtkecpjgpgnfhmaaDoorPlain
namespace Go.Proofs.YtkecpjgpgnfhmaaDoor

theorem lenB_nil (c : UInt8) : lenB [] c = [(c, 1)] := rfl
theorem lenB_snoc (l : List Rn) (r : Rn) (c : UInt8) : lenB (l ++ [r]) c = if r.1 = c then l ++ [(c, r.2 + 1)] else l ++ [r] ++ [(c, 1)] := by
  simp [lenB]
theorem runsB_nil : runsB [] = [] := rfl
theorem runsB_snoc (s : List UInt8) (c : UInt8) : runsB (s ++ [c]) = lenB (runsB s) c := by simp [runsB]
theorem runsB_take (s : List UInt8) (k : Nat) (c : UInt8) (h : s[k]? = some c) : runsB (s.take (k + 1)) = lenB (runsB (s.take k)) c := by
  obtain ⟨hlt, he⟩ := List.getElem?_eq_some_iff.1 h
  rw [List.take_succ_eq_append_getElem hlt, he, runsB_snoc]
/-- What holds of the runs of n columns. -/
structure RunsOk (n : Nat) (l : List Rn) : Prop where
  few : l.length ≤ n
  lens : ∀ r ∈ l, 1 ≤ r.2 ∧ r.2 ≤ n
theorem RunsOk.len {n : Nat} {l : List Rn} (h : RunsOk n l) (c : UInt8) : RunsOk (n + 1) (lenB l c) := by
  rcases List.eq_nil_or_concat l with rfl | ⟨m, r, rfl⟩
  · exact ⟨by simp [lenB], by simp [lenB]; omega⟩
  · rw [List.concat_eq_append] at *
    have hr := h.lens r (by simp)
    have hf := h.few
    have hm : ∀ x ∈ m, 1 ≤ x.2 ∧ x.2 ≤ ((n + 1 : Nat) : Int) := fun x hx => by have := h.lens x (by simp [hx]); omega
    simp at hf
    rw [lenB_snoc]
    split
    · refine ⟨by simp; omega, fun x hx => ?_⟩
      simp at hx
      rcases hx with hx | rfl
      · exact hm x hx
      · simp; omega
    · refine ⟨by simp; omega, fun x hx => ?_⟩
      simp at hx
      rcases hx with hx | rfl | rfl
      · exact hm x hx
      · omega
      · simp; omega
theorem runs_ok (s : List UInt8) : RunsOk s.length (runsB s) := by
  have : ∀ k, k ≤ s.length → RunsOk k (runsB (s.take k)) := by
    intro k
    induction k with
    | zero => exact fun _ => ⟨by simp [runsB], by simp [runsB]⟩
    | succ k ih =>
      intro hk
      rw [runsB_take s k s[k] (by rw [List.getElem?_eq_getElem (by omega)])]
      exact (ih (by omega)).len _
  have h := this s.length (Nat.le_refl _)
  rwa [List.take_length] at h
theorem all_take_succ {f : UInt8 → Bool} {s : List UInt8} {k : Nat} {c : UInt8} (h : s[k]? = some c) (ha : (s.take k).all f = true) (hc : f c = true) : (s.take (k + 1)).all f = true := by
  obtain ⟨hlt, he⟩ := List.getElem?_eq_some_iff.1 h
  rw [List.take_succ_eq_append_getElem hlt, he, List.all_append, ha]
  simp [hc]
theorem all_false_at {f : UInt8 → Bool} {s : List UInt8} {k : Nat} {c : UInt8} (h : s[k]? = some c) (hc : f c = false) : s.all f = false := by
  rw [List.all_eq_false]
  exact ⟨c, List.mem_of_getElem? h, by simp [hc]⟩
/-- The last run of columns has the last column's Op. -/
theorem runs_last (s : List UInt8) (k : Nat) (c : UInt8) (h : s[k]? = some c) : ∃ m r, runsB (s.take (k + 1)) = m ++ [r] ∧ r.1 = c := by
  rw [runsB_take s k c h]
  rcases List.eq_nil_or_concat (runsB (s.take k)) with e | ⟨m, r, e⟩
  · rw [e]; exact ⟨[], (c, 1), rfl, rfl⟩
  · rw [e, List.concat_eq_append, lenB_snoc]
    split
    · exact ⟨_, _, rfl, rfl⟩
    · exact ⟨_, _, rfl, rfl⟩
end Go.Proofs.YtkecpjgpgnfhmaaDoor
