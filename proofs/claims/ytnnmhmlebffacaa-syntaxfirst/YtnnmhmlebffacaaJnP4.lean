/-
  Two sources that are taken, with a line's end between: the items are those of both.
-/
import Derived.Test.YtnnmhmlebffacaaJnP3
namespace Go.Proofs.Ytnnmhmlebffacaa
open Go.RowKit Go.Deep

theorem end_ok {x : Rs (List It)} (h : (endW x).2.1 = 0) : ∃ its, x.val = some its ∧ x.many = [] ∧ (deepR its).1 = 0 ∧ endW x = (its, 0, 0) := by
  unfold endW at h ⊢
  cases hx : x.val with
  | none => rw [hx] at h; cases h
  | some its =>
    rw [hx] at h
    simp only at h ⊢
    by_cases h1 : (flt x.many (0, 0)).1 = 0
    · rw [if_neg (by simpa using h1)] at h ⊢
      by_cases h2 : (deepR its).1 = 0
      · rw [if_neg (by simpa using h2)]
        refine ⟨its, rfl, ?_, h2, rfl⟩
        cases hm : x.many with
        | nil => rfl
        | cons a r => rw [hm] at h1; cases h1
      · rw [if_pos (by simpa using h2)] at h; exact absurd h h2
    · rw [if_pos (by simpa using h1)] at h; exact absurd h h1
theorem end_of {x : Rs (List It)} {its : List It} (h1 : x.val = some its) (h2 : x.many = []) (h3 : (deepR its).1 = 0) : endW x = (its, 0, 0) := by
  unfold endW
  rw [h1]
  simp only
  rw [h2, flt_nil, if_neg (by simp), if_neg (by simpa using h3)]
theorem deep_app : ∀ (a b : List It), (deepR a).1 = 0 → (deepR b).1 = 0 → (deepR (a ++ b)).1 = 0
  | [], b, _, h => h
  | i :: a, b, h1, h2 => by
    rw [List.cons_append, deepR_cons]
    rw [deepR_cons] at h1
    by_cases hd : deepW i = true
    · rw [if_pos hd] at h1; cases h1
    · rw [if_neg hd] at h1 ⊢
      exact deep_app a b h1 h2
theorem same_app : ∀ (a : List It) {b c : List It}, sameI b c = true → sameI (a ++ b) (a ++ c) = true
  | [], b, c, h => h
  | i :: a, b, c, h => by
    have := same_app a h
    simp [sameI, sameF_refl, this]
theorem good_kind {S : List UInt8} {t : Tk} (h : Good S t) : t.kind ≠ 1 := by
  rw [h.is]
  rcases tk_cases (p := t.pl) h.some h.right with h | h | h | h | h
  · rw [h.1]; decide
  · rw [h.1]; decide
  · rw [h.1]; decide
  · rw [h.1]; decide
  · rw [h.1]; decide
theorem strip_shift (d : Nat) (l : List Tk) : (l.map (shiftT d)).map strip = l.map strip := by
  rw [List.map_map]; rfl
theorem parse_scan {S : List UInt8} (h : (parseW S).2.1 = 0) : (scanB S).2.2 = 0 ∧ parseW S = endW (sourceG (scanB S).1) := by
  unfold parseW at h ⊢
  by_cases hz : (scanB S).2.2 = 0
  · rw [if_neg (by simpa using hz)]; exact ⟨hz, rfl⟩
  · rw [if_pos (by simpa using hz)] at h; exact absurd h hz
theorem parse_join {S T : List UInt8} (h : S.length + T.length + 1 ≤ 4000) (h1 : (parseW S).2.1 = 0) (h2 : (parseW T).2.1 = 0) (h3 : (parseW S).1.length + (parseW T).1.length ≤ 100) :
    (parseW (S ++ 10 :: T)).2.1 = 0 ∧ sameI (parseW (S ++ 10 :: T)).1 ((parseW S).1 ++ (parseW T).1) = true := by
  obtain ⟨z1, e1⟩ := parse_scan h1
  obtain ⟨z2, e2⟩ := parse_scan h2
  obtain ⟨A, hA, hJ⟩ := (scan_join h).2.2 z1 z2
  obtain ⟨_, _, T1, hT1, hg1, _⟩ := scan_good z1
  obtain ⟨_, _, T2, hT2, _, _⟩ := scan_good z2
  have f1 := scan_few S
  have fJ := scan_few (S ++ 10 :: T)
  have hAk : ∀ t ∈ A, t.kind ≠ 1 := fun t ht => by
    have : A = T1 := by
      rw [hA] at hT1
      exact List.append_cancel_right hT1
    rw [this] at ht
    exact good_kind (hg1 t ht)
  rw [e1] at h1 h3 ⊢
  rw [e2] at h2 h3 ⊢
  obtain ⟨its1, v1, m1, d1, w1⟩ := end_ok h1
  obtain ⟨its2, v2, m2, d2, w2⟩ := end_ok h2
  rw [w1, w2] at h3 ⊢
  rw [hA] at v1 m1 f1
  rw [hJ] at fJ
  have eJ : parseW (S ++ 10 :: T) = endW (sourceG (A ++ (scanB T).1.map (shiftT (S.length + 1)))) := by
    unfold parseW
    rw [hJ, if_neg (by simp)]
  generalize hB : (scanB T).1.map (shiftT (S.length + 1)) = B at *
  have hBs : B.map strip = (scanB T).1.map strip := by rw [← hB]; exact strip_shift _ _
  have hr : Rl RL' (sourceG B) (sourceG (scanB T).1) := rl_source (rl_expr (rl_fac mx)) mx [] [] _ _ rfl hBs
  obtain ⟨its2', v2', hsame⟩ : ∃ its2', (sourceG B).val = some its2' ∧ sameI its2' its2 = true := by
    rcases hr.val with ⟨_, q⟩ | ⟨a, b, qa, qb, qR⟩
    · rw [v2] at q; cases q
    · rw [v2] at qb; cases qb
      exact ⟨a, qa, qR⟩
  have m2' : (sourceG B).many = [] := by
    have := hr.many
    rw [m2] at this
    exact List.eq_nil_of_length_eq_zero this
  simp only [List.length_append, List.length_singleton] at f1 fJ
  obtain ⟨k, hk, hj⟩ := source_join (loc_expr (loc_fac mx) (fac_sufN mx)) (expr_sufN (fac_sufN mx)) (expr_suf (fac_suf mx)) (e1 := endTk S.length) rfl B A.length A mx mx [] its1 (Nat.le_refl _) hAk (by unfold mx; omega) (by unfold mx; omega) v1
  have hBl : B = T2.map (shiftT (S.length + 1)) ++ [shiftT (S.length + 1) (endTk T.length)] := by
    rw [← hB, hT2, List.map_append]; rfl
  have hacc := source_acc (ex := exprG (facN mx)) (expr_suf (fac_suf mx)) its1 mx k [] its2' B (by unfold mx; omega) hk v2' (by rw [rI_len hsame]; exact h3) (fun t ht => by
    rw [hBl, List.getLast?_append] at ht
    simp at ht
    rw [← ht]; rfl) (by rw [hBl]; simp)
  rw [List.append_nil] at hacc
  have hX : sourceG (A ++ B) = pre (sourceG (A ++ [endTk S.length])).many (sourceGo (exprG (facN mx)) k its1 B) := hj
  rw [m1, pre_nil, hacc] at hX
  have hd2 : (deepR its2').1 = 0 := by rw [deepR_same hsame]; exact d2
  have hE := end_of (x := sourceG (A ++ B)) (its := its1 ++ its2') (by rw [hX]) (by rw [hX]; exact m2') (deep_app _ _ d1 hd2)
  rw [eJ, hE]
  exact ⟨rfl, same_app its1 hsame⟩
end Go.Proofs.Ytnnmhmlebffacaa
