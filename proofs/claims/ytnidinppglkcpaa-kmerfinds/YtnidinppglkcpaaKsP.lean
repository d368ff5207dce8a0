/-
  Letters ahead of a reference: where its words stand.
-/
import Derived.Test.YtnidinppglkcpaaKmP
namespace Go.Proofs.Ytnidinppglkcpaa

def shO (d : Nat) (o : Oc) : Oc := (o.1, (o.2.1, o.2.2 + d))
def shP (d : Nat) (p : Pl) : Pl := (p.1, p.2 + d)
theorem oc1_shift (k r : Nat) (A S : Wd) (i : Nat) : oc1 k r (A ++ S) (A.length + i) = shO A.length (oc1 k r S i) := by
  unfold oc1 shO
  rw [List.drop_append, List.drop_eq_nil_of_le (by omega), List.nil_append, Nat.add_sub_cancel_left]
  congr 2
  show ((A.length + i : Nat) : Int) = (i : Int) + (A.length : Int)
  omega
theorem occ1_shift (k r : Nat) (A S : Wd) (h : 0 < S.length + 1 - k) : occ1 k r (A ++ S) = (List.range A.length).map (oc1 k r (A ++ S)) ++ (occ1 k r S).map (shO A.length) := by
  have e : (A ++ S).length + 1 - k = A.length + (S.length + 1 - k) := by rw [List.length_append]; omega
  rw [occ1, e, List.range_add, List.map_append, occ1, List.map_map, List.map_map]
  congr 1
  exact List.map_congr_left fun i _ => oc1_shift k r A S i
theorem pls_shift (L : List Oc) (d : Nat) (w : Wd) : plsOf (L.map (shO d)) w = (plsOf L w).map (shP d) := by
  induction L with
  | nil => rfl
  | cons o L ih =>
    have e1 : plsOf (o :: L) w = plsOf [o] w ++ plsOf L w := pls_append [o] L w
    have e2 : plsOf ((o :: L).map (shO d)) w = plsOf [shO d o] w ++ plsOf (L.map (shO d)) w := pls_append [shO d o] (L.map (shO d)) w
    rw [e1, e2, ih, List.map_append]
    congr 1
    by_cases h : o.1 = w
    · simp [plsOf, shO, shP, h]
    · simp [plsOf, shO, h]
theorem pls_mem {L : List Oc} {w : Wd} {p : Pl} (h : p ∈ plsOf L w) : (w, p) ∈ L := by
  simp only [plsOf, List.mem_map, List.mem_filter, beq_iff_eq] at h
  obtain ⟨⟨a, b⟩, ⟨h1, h2⟩, h3⟩ := h
  simp at h2 h3
  subst h2 h3
  exact h1
theorem occ_one (k r : Nat) (S : Wd) : occ k r [S] = occ1 k r S := by simp [occ]
/-- A word of the reference stands in the longer one where it did, so many places on; ahead of that it stands where letters ahead are in it. -/
theorem shift_pls {k : Nat} {A S : Wd} {w : Wd} (hw : w ∈ wdsOf (occ k 0 [S])) : ∃ pre : List Pl, plsOf (occ k 0 [A ++ S]) w = pre ++ (plsOf (occ k 0 [S]) w).map (shP A.length) ∧ ∀ p ∈ pre, p.2 < A.length := by
  rw [occ_one, occ_one]
  rw [occ_one, wds_mem] at hw
  have h : 0 < S.length + 1 - k := by
    obtain ⟨o, ho, _⟩ := hw
    have := List.length_pos_of_mem ho
    rw [occ1_len] at this; exact this
  rw [occ1_shift k 0 A S h, pls_append, pls_shift]
  refine ⟨_, rfl, fun p hp => ?_⟩
  have := pls_mem hp
  simp only [List.mem_map, List.mem_range] at this
  obtain ⟨i, hi, he⟩ := this
  have : p.2 = (i : Int) := by
    have := congrArg (fun o : Oc => o.2.2) he
    simpa [oc1] using this.symm
  omega
theorem occ_at {k : Nat} : ∀ {l : List Wd} {r : Nat} {o : Oc}, o ∈ occ k r l → ∃ i a, i < l.length ∧ a + k ≤ (l.getD i []).length ∧ o = oc1 k (r + i) (l.getD i []) a
  | [], _, _, h => by simp [occ] at h
  | s :: l, r, o, h => by
    rw [occ, List.mem_append] at h
    rcases h with h | h
    · obtain ⟨a, ha, rfl⟩ := occ1_mem h
      exact ⟨0, a, by simp, by simpa using ha, by simp⟩
    · obtain ⟨i, a, h1, h2, h3⟩ := occ_at h
      refine ⟨i + 1, a, by simp; omega, by simpa using h2, ?_⟩
      rw [h3]
      simp [Nat.add_assoc, Nat.add_comm 1]
theorem pls_at {k : Nat} {refs : List Wd} {w : Wd} {p : Pl} (h : p ∈ plsOf (occ k 0 refs) w) : ∃ r a : Nat, p = ((r : Int), (a : Int)) ∧ r < refs.length ∧ a + k ≤ (refs.getD r []).length ∧ w = ((refs.getD r []).drop a).take k := by
  obtain ⟨i, a, h1, h2, h3⟩ := occ_at (pls_mem h)
  rw [oc1, Nat.zero_add] at h3
  injection h3 with h4 h5
  exact ⟨i, a, h5, h1, h2, h4⟩
end Go.Proofs.Ytnidinppglkcpaa
