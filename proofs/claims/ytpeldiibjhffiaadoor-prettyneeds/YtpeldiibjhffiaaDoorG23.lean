/-
  Two sources, one behind the other: the items of both. Two sources that are taken, with a line's end between: the items are those of both.
-/
import Derived.Test.YtpeldiibjhffiaaDoorG22
namespace Go.Proofs.YtpeldiibjhffiaaDoor
open Go.RowKit Go.Deep

theorem sourceGo_end {ex : List Tk → Rs Ex} {m : Nat} {its : List It} {e1 : Tk} {r : List Tk} (h1 : e1.kind = 1) : sourceGo ex (m + 1) its (e1 :: r) = pure' its (e1 :: r) := by
  rw [sourceGo, if_pos h1]
/-- The items of the first are read as they were; then those of the second. -/
theorem source_join {ex : List Tk → Rs Ex} (hf : LocC ex) (sf : Sf ex) (hs : ∀ l, (ex l).rest <:+ l) {e1 : Tk} (he : e1.kind = 1) (B : List Tk) :
    ∀ (N : Nat) (A : List Tk) (m m' : Nat) (its its1 : List It), A.length ≤ N → (∀ t ∈ A, t.kind ≠ 1) → A.length + 1 ≤ m → A.length + B.length ≤ m' → (sourceGo ex m its (A ++ [e1])).val = some its1 →
      ∃ k, B.length ≤ k ∧ sourceGo ex m' its (A ++ B) = pre (sourceGo ex m its (A ++ [e1])).many (sourceGo ex k its1 B)
  | N, [], m, m', its, its1, _, _, hm, hm', hv => by
    cases m with
    | zero => simp at hm
    | succ m =>
      have e := sourceGo_end (ex := ex) (m := m) (its := its) (r := []) he
      simp only [List.nil_append] at hv ⊢
      rw [e] at hv ⊢
      have : its = its1 := Option.some.inj hv
      subst this
      exact ⟨m', by simpa using hm', rfl⟩
  | 0, t :: A, _, _, _, _, hN, _, _, _, _ => by simp at hN
  | N + 1, t :: A, m, m', its, its1, hN, hA, hm, hm', hv => by
    have ht : t.kind ≠ 1 := hA t (by simp)
    cases m with
    | zero => simp at hm
    | succ m =>
      cases m' with
      | zero => simp at hm'
      | succ m' =>
        simp only [List.cons_append] at hv ⊢
        rw [sourceGo, if_neg ht, note_pre] at hv ⊢
        rw [sourceGo, if_neg ht, note_pre]
        cases hx : (itemG ex (t :: (A ++ [e1]))).val with
        | none =>
          have hv' : ((itemG ex (t :: (A ++ [e1]))).bind fun i l2 => sourceGo ex m (its ++ [i]) l2).val = some its1 := hv
          rw [bind_none _ hx] at hv'; cases hv'
        | some i =>
          have hv' : ((itemG ex (t :: (A ++ [e1]))).bind fun i l2 => sourceGo ex m (its ++ [i]) l2).val = some its1 := hv
          rw [bind_pre _ hx] at hv'
          have hv2 : (sourceGo ex m (its ++ [i]) (itemG ex (t :: (A ++ [e1]))).rest).val = some its1 := hv'
          -- what the item takes
          obtain ⟨q, hq⟩ := item_suf hs hx
          obtain ⟨p0, hp0, hk0⟩ := item_sufN sf (t :: (A ++ [e1]))
          have hne : (itemG ex (t :: (A ++ [e1]))).rest ≠ [] := fun e0 => by
            rw [e0, List.append_nil] at hp0
            have : e1 ∈ p0 := by rw [← hp0]; simp
            exact hk0 e1 this he
          obtain ⟨A2, hA2⟩ : ∃ A2, (itemG ex (t :: (A ++ [e1]))).rest = A2 ++ [e1] := by
            have h3 := List.dropLast_concat_getLast hne
            refine ⟨(itemG ex (t :: (A ++ [e1]))).rest.dropLast, ?_⟩
            have h4 : (itemG ex (t :: (A ++ [e1]))).rest.getLast hne = e1 := by
              have h5 : (q ++ (itemG ex (t :: (A ++ [e1]))).rest).getLast (by simp [hne]) = (A ++ [e1]).getLast (by simp) := by congr 1
              rw [List.getLast_append_of_ne_nil _ hne] at h5
              rw [h5]; simp
            rw [h4] at h3; exact h3.symm
          rw [hA2] at hq hv2
          have hAq : A = q ++ A2 := by
            rw [← List.append_assoc] at hq
            exact (List.append_cancel_right hq).symm
          subst hAq
          rw [show q ++ A2 ++ [e1] = q ++ (A2 ++ [e1]) by simp] at *
          have hloc := item_loc hf sf (t := t) (p := q) (x := A2 ++ [e1]) hx hA2 (A2 ++ B)
          obtain ⟨k, hk, hj⟩ := source_join hf sf hs he B N A2 m m' (its ++ [i]) its1 (by simp at hN; omega) (fun u hu => hA u (by simp [hu])) (by simp at hm; omega) (by simp at hm'; omega) hv2
          refine ⟨k, hk, ?_⟩
          rw [show q ++ A2 ++ B = q ++ (A2 ++ B) by simp, hloc, bind_pre _ hx, hA2]
          rw [bind_pre (x := (⟨some i, A2 ++ B, (itemG ex (t :: (q ++ (A2 ++ [e1])))).many⟩ : Rs It)) _ rfl]
          simp only
          rw [hj]
          simp [pre, plOf]
theorem source_grow {ex : List Tk → Rs Ex} : ∀ (m : Nat) (its its2 : List It) (l : List Tk), (sourceGo ex m its l).val = some its2 → its.length ≤ its2.length
  | 0, its, its2, l, h => by have : its = its2 := Option.some.inj h; rw [this]; exact Nat.le_refl _
  | _ + 1, its, its2, [], h => by have : its = its2 := Option.some.inj h; rw [this]; exact Nat.le_refl _
  | m + 1, its, its2, t :: r, h => by
    rw [sourceGo] at h
    split at h
    · have : its = its2 := Option.some.inj h
      rw [this]; exact Nat.le_refl _
    · rw [note_pre] at h
      have h' : ((itemG ex (t :: r)).bind fun i l2 => sourceGo ex m (its ++ [i]) l2).val = some its2 := h
      cases hx : (itemG ex (t :: r)).val with
      | none => rw [bind_none _ hx] at h'; cases h'
      | some i =>
        rw [bind_pre _ hx] at h'
        have := source_grow m (its ++ [i]) its2 _ h'
        simp at this
        omega
/-- Items that were read before change nothing but that they stand ahead, where there are not too many. -/
theorem source_acc {ex : List Tk → Rs Ex} (hs : ∀ l, (ex l).rest <:+ l) (a : List It) : ∀ (m m' : Nat) (its its2 : List It) (l : List Tk), l.length ≤ m → l.length ≤ m' → (sourceGo ex m its l).val = some its2 → a.length + its2.length ≤ 100 → (∀ t, l.getLast? = some t → t.kind = 1) → 0 < l.length →
    sourceGo ex m' (a ++ its) l = ⟨some (a ++ its2), (sourceGo ex m its l).rest, (sourceGo ex m its l).many⟩
  | _, _, _, _, [], _, _, _, _, _, h => by simp at h
  | 0, _, _, _, _ :: _, h, _, _, _, _, _ => by simp at h
  | _, 0, _, _, _ :: _, _, h, _, _, _, _ => by simp at h
  | m + 1, m' + 1, its, its2, t :: r, hm, hm', hv, h100, hl, h0 => by
    rw [sourceGo] at hv ⊢
    rw [sourceGo]
    by_cases ht : t.kind = 1
    · rw [if_pos ht] at hv
      rw [if_pos ht, if_pos ht]
      have : its = its2 := Option.some.inj hv
      rw [this]; rfl
    · rw [if_neg ht, note_pre] at hv
      rw [if_neg ht, if_neg ht, note_pre, note_pre]
      have hv' : ((itemG ex (t :: r)).bind fun i l2 => sourceGo ex m (its ++ [i]) l2).val = some its2 := hv
      cases hx : (itemG ex (t :: r)).val with
      | none => rw [bind_none _ hx] at hv'; cases hv'
      | some i =>
        rw [bind_pre _ hx] at hv' ⊢
        rw [bind_pre _ hx]
        have hv2 : (sourceGo ex m (its ++ [i]) (itemG ex (t :: r)).rest).val = some its2 := hv'
        have hg := source_grow m (its ++ [i]) its2 _ hv2
        simp only [List.length_append, List.length_singleton] at hg
        obtain ⟨q, hq⟩ := item_suf hs hx
        have hlen := congrArg List.length hq
        rw [List.length_append] at hlen
        simp at hm hm'
        have e1 : decide ((a ++ its).length = 100) = false := by simp; omega
        have e2 : decide (its.length = 100) = false := by simp; omega
        rw [e1, e2]
        cases hr : (itemG ex (t :: r)).rest with
        | nil =>
          rw [hr] at hv2
          have e3 : ∀ n j, sourceGo ex n j [] = pure' j [] := fun n j => by cases n <;> rfl
          rw [e3] at hv2
          rw [e3, e3, List.append_assoc]
          have : its ++ [i] = its2 := Option.some.inj hv2
          rw [this]; rfl
        | cons t2 r2 =>
          rw [hr] at hv2 hq hlen
          have ih := source_acc hs a m m' (its ++ [i]) its2 (t2 :: r2) (by omega) (by omega) hv2 h100 (fun u hu => hl u (by
            rw [List.getLast?_cons, ← hq, List.getLast?_append, hu]; rfl)) (by simp)
          rw [List.append_assoc, ih]
          rfl
end Go.Proofs.YtpeldiibjhffiaaDoor
namespace Go.Proofs.YtpeldiibjhffiaaDoor
open Go.RowKit Go.Deep

theorem end_ok {x : Rs (List It)} (h : (endW x).2.1 = 0) : ∃ its, x.val = some its ∧ x.many = [] ∧ (deepR its).1 = 0 ∧ endW x = (its, 0, 0) := by
  unfold endW at h ⊢
  cases hx : x.val with
  | none => rw [hx] at h; cases h
  | some its =>
    rw [hx] at h
    simp only at h ⊢
    by_cases h1 : (flt x.many (0, 0)).1 = 0
    · rw [if_neg (by simpa using h1)] at h ⊢
      by_cases h2 : (deepR its).1 = 0
      · rw [if_neg (by simpa using h2)]
        refine ⟨its, rfl, ?_, h2, rfl⟩
        cases hm : x.many with
        | nil => rfl
        | cons a r => rw [hm] at h1; cases h1
      · rw [if_pos (by simpa using h2)] at h; exact absurd h h2
    · rw [if_pos (by simpa using h1)] at h; exact absurd h h1
theorem end_of {x : Rs (List It)} {its : List It} (h1 : x.val = some its) (h2 : x.many = []) (h3 : (deepR its).1 = 0) : endW x = (its, 0, 0) := by
  unfold endW
  rw [h1]
  simp only
  rw [h2, flt_nil, if_neg (by simp), if_neg (by simpa using h3)]
theorem deep_app : ∀ (a b : List It), (deepR a).1 = 0 → (deepR b).1 = 0 → (deepR (a ++ b)).1 = 0
  | [], b, _, h => h
  | i :: a, b, h1, h2 => by
    rw [List.cons_append, deepR_cons]
    rw [deepR_cons] at h1
    by_cases hd : deepW i = true
    · rw [if_pos hd] at h1; cases h1
    · rw [if_neg hd] at h1 ⊢
      exact deep_app a b h1 h2
theorem same_app : ∀ (a : List It) {b c : List It}, sameI b c = true → sameI (a ++ b) (a ++ c) = true
  | [], b, c, h => h
  | i :: a, b, c, h => by
    have := same_app a h
    simp [sameI, sameF_refl, this]
theorem good_kind {S : List UInt8} {t : Tk} (h : Good S t) : t.kind ≠ 1 := by
  rw [h.is]
  rcases tk_cases (p := t.pl) h.some h.right with h | h | h | h | h
  · rw [h.1]; decide
  · rw [h.1]; decide
  · rw [h.1]; decide
  · rw [h.1]; decide
  · rw [h.1]; decide
theorem strip_shift (d : Nat) (l : List Tk) : (l.map (shiftT d)).map strip = l.map strip := by
  rw [List.map_map]; rfl
theorem parse_scan {S : List UInt8} (h : (parseW S).2.1 = 0) : (scanB S).2.2 = 0 ∧ parseW S = endW (sourceG (scanB S).1) := by
  unfold parseW at h ⊢
  by_cases hz : (scanB S).2.2 = 0
  · rw [if_neg (by simpa using hz)]; exact ⟨hz, rfl⟩
  · rw [if_pos (by simpa using hz)] at h; exact absurd h hz
theorem parse_join {S T : List UInt8} (h : S.length + T.length + 1 ≤ 4000) (h1 : (parseW S).2.1 = 0) (h2 : (parseW T).2.1 = 0) (h3 : (parseW S).1.length + (parseW T).1.length ≤ 100) :
    (parseW (S ++ 10 :: T)).2.1 = 0 ∧ sameI (parseW (S ++ 10 :: T)).1 ((parseW S).1 ++ (parseW T).1) = true := by
  obtain ⟨z1, e1⟩ := parse_scan h1
  obtain ⟨z2, e2⟩ := parse_scan h2
  obtain ⟨A, hA, hJ⟩ := (scan_join h).2.2 z1 z2
  obtain ⟨_, _, T1, hT1, hg1, _⟩ := scan_good z1
  obtain ⟨_, _, T2, hT2, _, _⟩ := scan_good z2
  have f1 := scan_few S
  have fJ := scan_few (S ++ 10 :: T)
  have hAk : ∀ t ∈ A, t.kind ≠ 1 := fun t ht => by
    have : A = T1 := by
      rw [hA] at hT1
      exact List.append_cancel_right hT1
    rw [this] at ht
    exact good_kind (hg1 t ht)
  rw [e1] at h1 h3 ⊢
  rw [e2] at h2 h3 ⊢
  obtain ⟨its1, v1, m1, d1, w1⟩ := end_ok h1
  obtain ⟨its2, v2, m2, d2, w2⟩ := end_ok h2
  rw [w1, w2] at h3 ⊢
  rw [hA] at v1 m1 f1
  rw [hJ] at fJ
  have eJ : parseW (S ++ 10 :: T) = endW (sourceG (A ++ (scanB T).1.map (shiftT (S.length + 1)))) := by
    unfold parseW
    rw [hJ, if_neg (by simp)]
  generalize hB : (scanB T).1.map (shiftT (S.length + 1)) = B at *
  have hBs : B.map strip = (scanB T).1.map strip := by rw [← hB]; exact strip_shift _ _
  have hr : Rl RL' (sourceG B) (sourceG (scanB T).1) := rl_source (rl_expr (rl_fac mx)) mx [] [] _ _ rfl hBs
  obtain ⟨its2', v2', hsame⟩ : ∃ its2', (sourceG B).val = some its2' ∧ sameI its2' its2 = true := by
    rcases hr.val with ⟨_, q⟩ | ⟨a, b, qa, qb, qR⟩
    · rw [v2] at q; cases q
    · rw [v2] at qb; cases qb
      exact ⟨a, qa, qR⟩
  have m2' : (sourceG B).many = [] := by
    have := hr.many
    rw [m2] at this
    exact List.eq_nil_of_length_eq_zero this
  simp only [List.length_append, List.length_singleton] at f1 fJ
  obtain ⟨k, hk, hj⟩ := source_join (loc_expr (loc_fac mx) (fac_sufN mx)) (expr_sufN (fac_sufN mx)) (expr_suf (fac_suf mx)) (e1 := endTk S.length) rfl B A.length A mx mx [] its1 (Nat.le_refl _) hAk (by unfold mx; omega) (by unfold mx; omega) v1
  have hBl : B = T2.map (shiftT (S.length + 1)) ++ [shiftT (S.length + 1) (endTk T.length)] := by
    rw [← hB, hT2, List.map_append]; rfl
  have hacc := source_acc (ex := exprG (facN mx)) (expr_suf (fac_suf mx)) its1 mx k [] its2' B (by unfold mx; omega) hk v2' (by rw [rI_len hsame]; exact h3) (fun t ht => by
    rw [hBl, List.getLast?_append] at ht
    simp at ht
    rw [← ht]; rfl) (by rw [hBl]; simp)
  rw [List.append_nil] at hacc
  have hX : sourceG (A ++ B) = pre (sourceG (A ++ [endTk S.length])).many (sourceGo (exprG (facN mx)) k its1 B) := hj
  rw [m1, pre_nil, hacc] at hX
  have hd2 : (deepR its2').1 = 0 := by rw [deepR_same hsame]; exact d2
  have hE := end_of (x := sourceG (A ++ B)) (its := its1 ++ its2') (by rw [hX]) (by rw [hX]; exact m2') (deep_app _ _ d1 hd2)
  rw [eJ, hE]
  exact ⟨rfl, same_app its1 hsame⟩
end Go.Proofs.YtpeldiibjhffiaaDoor
