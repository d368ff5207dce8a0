/-
  Two sources, one behind the other: the items of both.
-/
import Derived.Test.YtnnmhmlebffacaaJnP2
namespace Go.Proofs.Ytnnmhmlebffacaa
open Go.RowKit Go.Deep

theorem sourceGo_end {ex : List Tk → Rs Ex} {m : Nat} {its : List It} {e1 : Tk} {r : List Tk} (h1 : e1.kind = 1) : sourceGo ex (m + 1) its (e1 :: r) = pure' its (e1 :: r) := by
  rw [sourceGo, if_pos h1]
/-- The items of the first are read as they were; then those of the second. -/
theorem source_join {ex : List Tk → Rs Ex} (hf : LocC ex) (sf : Sf ex) (hs : ∀ l, (ex l).rest <:+ l) {e1 : Tk} (he : e1.kind = 1) (B : List Tk) :
    ∀ (N : Nat) (A : List Tk) (m m' : Nat) (its its1 : List It), A.length ≤ N → (∀ t ∈ A, t.kind ≠ 1) → A.length + 1 ≤ m → A.length + B.length ≤ m' → (sourceGo ex m its (A ++ [e1])).val = some its1 →
      ∃ k, B.length ≤ k ∧ sourceGo ex m' its (A ++ B) = pre (sourceGo ex m its (A ++ [e1])).many (sourceGo ex k its1 B)
  | N, [], m, m', its, its1, _, _, hm, hm', hv => by
    cases m with
    | zero => simp at hm
    | succ m =>
      have e := sourceGo_end (ex := ex) (m := m) (its := its) (r := []) he
      simp only [List.nil_append] at hv ⊢
      rw [e] at hv ⊢
      have : its = its1 := Option.some.inj hv
      subst this
      exact ⟨m', by simpa using hm', rfl⟩
  | 0, t :: A, _, _, _, _, hN, _, _, _, _ => by simp at hN
  | N + 1, t :: A, m, m', its, its1, hN, hA, hm, hm', hv => by
    have ht : t.kind ≠ 1 := hA t (by simp)
    cases m with
    | zero => simp at hm
    | succ m =>
      cases m' with
      | zero => simp at hm'
      | succ m' =>
        simp only [List.cons_append] at hv ⊢
        rw [sourceGo, if_neg ht, note_pre] at hv ⊢
        rw [sourceGo, if_neg ht, note_pre]
        cases hx : (itemG ex (t :: (A ++ [e1]))).val with
        | none =>
          have hv' : ((itemG ex (t :: (A ++ [e1]))).bind fun i l2 => sourceGo ex m (its ++ [i]) l2).val = some its1 := hv
          rw [bind_none _ hx] at hv'; cases hv'
        | some i =>
          have hv' : ((itemG ex (t :: (A ++ [e1]))).bind fun i l2 => sourceGo ex m (its ++ [i]) l2).val = some its1 := hv
          rw [bind_pre _ hx] at hv'
          have hv2 : (sourceGo ex m (its ++ [i]) (itemG ex (t :: (A ++ [e1]))).rest).val = some its1 := hv'
          -- what the item takes
          obtain ⟨q, hq⟩ := item_suf hs hx
          obtain ⟨p0, hp0, hk0⟩ := item_sufN sf (t :: (A ++ [e1]))
          have hne : (itemG ex (t :: (A ++ [e1]))).rest ≠ [] := fun e0 => by
            rw [e0, List.append_nil] at hp0
            have : e1 ∈ p0 := by rw [← hp0]; simp
            exact hk0 e1 this he
          obtain ⟨A2, hA2⟩ : ∃ A2, (itemG ex (t :: (A ++ [e1]))).rest = A2 ++ [e1] := by
            have h3 := List.dropLast_concat_getLast hne
            refine ⟨(itemG ex (t :: (A ++ [e1]))).rest.dropLast, ?_⟩
            have h4 : (itemG ex (t :: (A ++ [e1]))).rest.getLast hne = e1 := by
              have h5 : (q ++ (itemG ex (t :: (A ++ [e1]))).rest).getLast (by simp [hne]) = (A ++ [e1]).getLast (by simp) := by congr 1
              rw [List.getLast_append_of_ne_nil _ hne] at h5
              rw [h5]; simp
            rw [h4] at h3; exact h3.symm
          rw [hA2] at hq hv2
          have hAq : A = q ++ A2 := by
            rw [← List.append_assoc] at hq
            exact (List.append_cancel_right hq).symm
          subst hAq
          rw [show q ++ A2 ++ [e1] = q ++ (A2 ++ [e1]) by simp] at *
          have hloc := item_loc hf sf (t := t) (p := q) (x := A2 ++ [e1]) hx hA2 (A2 ++ B)
          obtain ⟨k, hk, hj⟩ := source_join hf sf hs he B N A2 m m' (its ++ [i]) its1 (by simp at hN; omega) (fun u hu => hA u (by simp [hu])) (by simp at hm; omega) (by simp at hm'; omega) hv2
          refine ⟨k, hk, ?_⟩
          rw [show q ++ A2 ++ B = q ++ (A2 ++ B) by simp, hloc, bind_pre _ hx, hA2]
          rw [bind_pre (x := (⟨some i, A2 ++ B, (itemG ex (t :: (q ++ (A2 ++ [e1])))).many⟩ : Rs It)) _ rfl]
          simp only
          rw [hj]
          simp [pre, plOf]
theorem source_grow {ex : List Tk → Rs Ex} : ∀ (m : Nat) (its its2 : List It) (l : List Tk), (sourceGo ex m its l).val = some its2 → its.length ≤ its2.length
  | 0, its, its2, l, h => by have : its = its2 := Option.some.inj h; rw [this]; exact Nat.le_refl _
  | _ + 1, its, its2, [], h => by have : its = its2 := Option.some.inj h; rw [this]; exact Nat.le_refl _
  | m + 1, its, its2, t :: r, h => by
    rw [sourceGo] at h
    split at h
    · have : its = its2 := Option.some.inj h
      rw [this]; exact Nat.le_refl _
    · rw [note_pre] at h
      have h' : ((itemG ex (t :: r)).bind fun i l2 => sourceGo ex m (its ++ [i]) l2).val = some its2 := h
      cases hx : (itemG ex (t :: r)).val with
      | none => rw [bind_none _ hx] at h'; cases h'
      | some i =>
        rw [bind_pre _ hx] at h'
        have := source_grow m (its ++ [i]) its2 _ h'
        simp at this
        omega
/-- Items that were read before change nothing but that they stand ahead, where there are not too many. -/
theorem source_acc {ex : List Tk → Rs Ex} (hs : ∀ l, (ex l).rest <:+ l) (a : List It) : ∀ (m m' : Nat) (its its2 : List It) (l : List Tk), l.length ≤ m → l.length ≤ m' → (sourceGo ex m its l).val = some its2 → a.length + its2.length ≤ 100 → (∀ t, l.getLast? = some t → t.kind = 1) → 0 < l.length →
    sourceGo ex m' (a ++ its) l = ⟨some (a ++ its2), (sourceGo ex m its l).rest, (sourceGo ex m its l).many⟩
  | _, _, _, _, [], _, _, _, _, _, h => by simp at h
  | 0, _, _, _, _ :: _, h, _, _, _, _, _ => by simp at h
  | _, 0, _, _, _ :: _, _, h, _, _, _, _ => by simp at h
  | m + 1, m' + 1, its, its2, t :: r, hm, hm', hv, h100, hl, h0 => by
    rw [sourceGo] at hv ⊢
    rw [sourceGo]
    by_cases ht : t.kind = 1
    · rw [if_pos ht] at hv
      rw [if_pos ht, if_pos ht]
      have : its = its2 := Option.some.inj hv
      rw [this]; rfl
    · rw [if_neg ht, note_pre] at hv
      rw [if_neg ht, if_neg ht, note_pre, note_pre]
      have hv' : ((itemG ex (t :: r)).bind fun i l2 => sourceGo ex m (its ++ [i]) l2).val = some its2 := hv
      cases hx : (itemG ex (t :: r)).val with
      | none => rw [bind_none _ hx] at hv'; cases hv'
      | some i =>
        rw [bind_pre _ hx] at hv' ⊢
        rw [bind_pre _ hx]
        have hv2 : (sourceGo ex m (its ++ [i]) (itemG ex (t :: r)).rest).val = some its2 := hv'
        have hg := source_grow m (its ++ [i]) its2 _ hv2
        simp only [List.length_append, List.length_singleton] at hg
        obtain ⟨q, hq⟩ := item_suf hs hx
        have hlen := congrArg List.length hq
        rw [List.length_append] at hlen
        simp at hm hm'
        have e1 : decide ((a ++ its).length = 100) = false := by simp; omega
        have e2 : decide (its.length = 100) = false := by simp; omega
        rw [e1, e2]
        cases hr : (itemG ex (t :: r)).rest with
        | nil =>
          rw [hr] at hv2
          have e3 : ∀ n j, sourceGo ex n j [] = pure' j [] := fun n j => by cases n <;> rfl
          rw [e3] at hv2
          rw [e3, e3, List.append_assoc]
          have : its ++ [i] = its2 := Option.some.inj hv2
          rw [this]; rfl
        | cons t2 r2 =>
          rw [hr] at hv2 hq hlen
          have ih := source_acc hs a m m' (its ++ [i]) its2 (t2 :: r2) (by omega) (by omega) hv2 h100 (fun u hu => hl u (by
            rw [List.getLast?_cons, ← hq, List.getLast?_append, hu]; rfl)) (by simp)
          rw [List.append_assoc, ih]
          rfl
end Go.Proofs.Ytnnmhmlebffacaa
