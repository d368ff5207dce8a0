/-
  What is read of lines, in plain lists: a run over lines; two files one behind the other.
-/
import Derived.Test.YtcpoiaclicmmmaaPlain
namespace Go.Proofs.Ytcpoiaclicmmmaa

def runQ (st : List Pr) (ph : Ph) : List (List UInt8) → Option (List Pr × Ph)
  | [] => some (st, ph)
  | l :: ls => match stepQ st ph l with
    | none => none
    | some s => runQ s.1 s.2 ls
theorem goQ_some (ls : List (List UInt8)) : ∀ (st : List Pr) (ph : Ph) (s : List Pr × Ph) (k : Nat), runQ st ph ls = some s → goQ st ph k ls = if s.2.inside then ([], k + ls.length + 1, 30) else (s.1.reverse, 0, 0) := by
  induction ls with
  | nil => intro st ph s k h; cases h; rfl
  | cons l ls ih =>
    intro st ph s k h
    simp only [runQ] at h
    simp only [goQ]
    cases hs : stepQ st ph l with
    | none => rw [hs] at h; cases h
    | some t =>
      rw [hs] at h
      simp only [] at h ⊢
      rw [ih t.1 t.2 s (k + 1) h, List.length_cons, show k + 1 + ls.length + 1 = k + (ls.length + 1) + 1 by omega]
theorem goQ_none (ls more : List (List UInt8)) : ∀ (st : List Pr) (ph : Ph) (k : Nat), runQ st ph ls = none → ∃ j, k + 1 ≤ j ∧ j ≤ k + ls.length ∧ goQ st ph k ls = ([], j, 30) ∧ goQ st ph k (ls ++ more) = ([], j, 30) := by
  induction ls with
  | nil => intro st ph k h; cases h
  | cons l ls ih =>
    intro st ph k h
    simp only [runQ] at h
    simp only [goQ, List.cons_append]
    cases hs : stepQ st ph l with
    | none => exact ⟨k + 1, Nat.le_refl _, by simp, rfl, rfl⟩
    | some s =>
      rw [hs] at h
      obtain ⟨j, h1, h2, h3, h4⟩ := ih s.1 s.2 (k + 1) h
      exact ⟨j, by omega, by simp only [List.length_cons]; omega, h3, h4⟩
theorem run_append (a b : List (List UInt8)) : ∀ st ph, runQ st ph (a ++ b) = (runQ st ph a).bind fun s => runQ s.1 s.2 b := by
  induction a with
  | nil => intro st ph; rfl
  | cons l a ih =>
    intro st ph
    simp only [List.cons_append, runQ]
    cases stepQ st ph l with
    | none => rfl
    | some s => exact ih s.1 s.2

/-! More reads ahead -/
theorem first_mono {m n : Nat} {l : List UInt8} (h : m ≤ n) (hf : firstB n l = true) : firstB m l = true := by
  simp only [firstB, Bool.and_eq_true, decide_eq_true_eq] at hf ⊢
  exact ⟨hf.1, hf.2.1, by omega⟩
theorem first_up {m n : Nat} {l : List UInt8} (h : n < 256) (hf : firstB m l = true) : firstB n l = true := by
  simp only [firstB, Bool.and_eq_true, decide_eq_true_eq] at hf ⊢
  exact ⟨hf.1, hf.2.1, h⟩
def weight (s : List Pr) (ph : Ph) : Nat := s.length + if ph.inside then 1 else 0
theorem step0 (st : List Pr) (l : List UInt8) : stepQ st .p0 l = if l = [] then some (st, .p0) else if firstB st.length l then some (st, .p1 l.tail) else none := rfl
theorem step1 (st : List Pr) (t l : List UInt8) : stepQ st (.p1 t) l = if basesB l then some (st, .p2 t l) else none := rfl
theorem step2 (st : List Pr) (t b l : List UInt8) : stepQ st (.p2 t b) l = if markB t l then some (st, .p3 t b) else none := rfl
theorem step3 (st : List Pr) (t b l : List UInt8) : stepQ st (.p3 t b) l = if lastB b l then some (readOf t b l :: st, .p0) else none := rfl
theorem step_weight {s : List Pr} {ph : Ph} {l : List UInt8} {t : List Pr × Ph} (h : stepQ s ph l = some t) : weight s ph ≤ weight t.1 t.2 ∧ (weight s ph ≤ 256 → weight t.1 t.2 ≤ 256) := by
  cases ph using Ph.elim with
  | p0 =>
    rw [step0] at h
    split at h
    · cases h; exact ⟨Nat.le_refl _, id⟩
    · split at h
      · rename_i hf
        cases h
        simp only [firstB, Bool.and_eq_true, decide_eq_true_eq] at hf
        simp [weight]; omega
      · cases h
  | p1 t =>
    rw [step1] at h
    split at h
    · cases h; exact ⟨Nat.le_refl _, id⟩
    · cases h
  | p2 t b =>
    rw [step2] at h
    split at h
    · cases h; exact ⟨Nat.le_refl _, id⟩
    · cases h
  | p3 t b =>
    rw [step3] at h
    split at h
    · cases h; simp [weight]
    · cases h
theorem run_weight (ls : List (List UInt8)) : ∀ {s : List Pr} {ph : Ph} {t : List Pr × Ph}, runQ s ph ls = some t → weight s ph ≤ weight t.1 t.2 ∧ (weight s ph ≤ 256 → weight t.1 t.2 ≤ 256) := by
  induction ls with
  | nil => intro s ph t h; cases h; exact ⟨Nat.le_refl _, id⟩
  | cons l ls ih =>
    intro s ph t h
    simp only [runQ] at h
    cases hs : stepQ s ph l with
    | none => rw [hs] at h; cases h
    | some u =>
      rw [hs] at h
      have h1 := step_weight hs
      have h2 := ih h
      exact ⟨Nat.le_trans h1.1 h2.1, fun h3 => h2.2 (h1.2 h3)⟩
theorem step_ahead {s a : List Pr} {ph : Ph} {l : List UInt8} {t : List Pr × Ph} (h : stepQ s ph l = some t) (hw : weight t.1 t.2 + a.length ≤ 256) : stepQ (s ++ a) ph l = some (t.1 ++ a, t.2) := by
  cases ph using Ph.elim with
  | p0 =>
    rw [step0] at h ⊢
    split at h
    · rename_i h0; cases h; rw [if_pos h0]
    · rename_i h0
      rw [if_neg h0]
      split at h
      · rename_i hf
        cases h
        simp [weight] at hw
        rw [if_pos (first_up (by simp; omega) hf)]
      · cases h
  | p1 t =>
    rw [step1] at h ⊢
    split at h
    · rename_i hb; cases h; rw [if_pos hb]
    · cases h
  | p2 t b =>
    rw [step2] at h ⊢
    split at h
    · rename_i hb; cases h; rw [if_pos hb]
    · cases h
  | p3 t b =>
    rw [step3] at h ⊢
    split at h
    · rename_i hb; cases h; rw [if_pos hb]; rfl
    · cases h
theorem run_ahead (ls : List (List UInt8)) : ∀ {s a : List Pr} {ph : Ph} {t : List Pr × Ph}, runQ s ph ls = some t → weight t.1 t.2 + a.length ≤ 256 → runQ (s ++ a) ph ls = some (t.1 ++ a, t.2) := by
  induction ls with
  | nil => intro s a ph t h _; cases h; rfl
  | cons l ls ih =>
    intro s a ph t h hw
    simp only [runQ] at h
    cases hs : stepQ s ph l with
    | none => rw [hs] at h; cases h
    | some u =>
      rw [hs] at h
      have h1 := (run_weight ls h).1
      simp only [runQ, step_ahead (a := a) hs (by omega)]
      exact ih h hw
theorem step_back {s a : List Pr} {ph : Ph} {l : List UInt8} {t : List Pr × Ph} (h : stepQ (s ++ a) ph l = some t) : ∃ u, stepQ s ph l = some (u, t.2) ∧ t.1 = u ++ a := by
  cases ph using Ph.elim with
  | p0 =>
    rw [step0] at h ⊢
    split at h
    · rename_i h0; cases h; rw [if_pos h0]; exact ⟨s, rfl, rfl⟩
    · rename_i h0
      rw [if_neg h0]
      split at h
      · rename_i hf
        cases h
        rw [if_pos (first_mono (by simp) hf)]
        exact ⟨s, rfl, rfl⟩
      · cases h
  | p1 t =>
    rw [step1] at h ⊢
    split at h
    · rename_i hb; cases h; rw [if_pos hb]; exact ⟨s, rfl, rfl⟩
    · cases h
  | p2 t b =>
    rw [step2] at h ⊢
    split at h
    · rename_i hb; cases h; rw [if_pos hb]; exact ⟨s, rfl, rfl⟩
    · cases h
  | p3 t b =>
    rw [step3] at h ⊢
    split at h
    · rename_i hb; cases h; rw [if_pos hb]; exact ⟨_, rfl, rfl⟩
    · cases h
theorem run_back (ls : List (List UInt8)) : ∀ {s a : List Pr} {ph : Ph} {t : List Pr × Ph}, runQ (s ++ a) ph ls = some t → ∃ u, runQ s ph ls = some (u, t.2) ∧ t.1 = u ++ a := by
  induction ls with
  | nil => intro s a ph t h; cases h; exact ⟨s, rfl, rfl⟩
  | cons l ls ih =>
    intro s a ph t h
    simp only [runQ] at h
    cases hs : stepQ (s ++ a) ph l with
    | none => rw [hs] at h; cases h
    | some v =>
      rw [hs] at h
      obtain ⟨u, h1, h2⟩ := step_back hs
      simp only [] at h
      rw [h2] at h
      obtain ⟨u2, h3, h4⟩ := ih h
      exact ⟨u2, by simp only [runQ, h1]; exact h3, h4⟩

theorem linesGo_join (b a : List UInt8) : ∀ cur, ∃ e : List (List UInt8), (e = [] ∨ e = [[]]) ∧ linesGo cur (a ++ 10 :: b) = linesGo cur a ++ e ++ linesB b := by
  induction a with
  | nil =>
    intro cur
    by_cases h : cur = []
    · subst h; exact ⟨[[]], .inr rfl, by simp [linesGo, trimB, linesB]⟩
    · exact ⟨[], .inl rfl, by simp [linesGo, h, linesB]⟩
  | cons c r ih =>
    intro cur
    by_cases h : c = 10
    · subst h
      obtain ⟨e, he, h2⟩ := ih []
      exact ⟨e, he, by simp only [List.cons_append, linesGo, if_pos]; rw [h2]⟩
    · obtain ⟨e, he, h2⟩ := ih (cur ++ [c])
      exact ⟨e, he, by simp only [List.cons_append, linesGo, if_neg h]; rw [h2]⟩

theorem parse_long (t : List UInt8) (h : 1048576 < t.length) : parseQ t = ([], 0, 2) := by unfold parseQ; rw [if_pos h]
theorem parse_go (t : List UInt8) (h : t.length ≤ 1048576) : parseQ t = goQ [] .p0 0 (linesB t) := by unfold parseQ; rw [if_neg (by omega)]
/-- What Parse tells of a text that is not too long. -/
theorem parse_cases (t : List UInt8) (h : t.length ≤ 1048576) :
    (∃ st, runQ [] .p0 (linesB t) = some (st, .p0) ∧ parseQ t = (st.reverse, 0, 0)) ∨
    (runQ [] .p0 (linesB t) = none ∧ ∃ j, 1 ≤ j ∧ j ≤ (linesB t).length ∧ parseQ t = ([], j, 30)) ∨
    (∃ s, runQ [] .p0 (linesB t) = some s ∧ s.2.inside = true ∧ parseQ t = ([], (linesB t).length + 1, 30)) := by
  rw [parse_go t h]
  cases hr : runQ [] .p0 (linesB t) with
  | none =>
    obtain ⟨j, h1, h2, h3, _⟩ := goQ_none _ [] _ _ 0 hr
    exact .inr (.inl ⟨rfl, j, by omega, by omega, h3⟩)
  | some s =>
    have hg := goQ_some _ _ _ _ 0 hr
    cases ho : s.2.inside with
    | true => exact .inr (.inr ⟨s, rfl, ho, by rw [hg, ho]; simp⟩)
    | false =>
      obtain ⟨st, ph⟩ := s
      cases ph using Ph.elim with
      | p0 => exact .inl ⟨st, rfl, by rw [hg]; rfl⟩
      | p1 t => cases ho
      | p2 t b => cases ho
      | p3 t b => cases ho
theorem joinQ (a b : List UInt8) (hs : a.length + b.length < 1048576) :
    ((parseQ a).2.2 ≠ 0 → (linesB a).length < (parseQ a).2.1 ∨ ((parseQ (a ++ 10 :: b)).2.2 = (parseQ a).2.2 ∧ (parseQ (a ++ 10 :: b)).2.1 = (parseQ a).2.1)) ∧
    ((parseQ a).2.2 = 0 → ((parseQ b).2.2 ≠ 0 ∨ 256 < (parseQ a).1.length + (parseQ b).1.length) → ∃ j, 1 ≤ j ∧ parseQ (a ++ 10 :: b) = ([], j, 30)) ∧
    ((parseQ a).2.2 = 0 → (parseQ b).2.2 = 0 → (parseQ a).1.length + (parseQ b).1.length ≤ 256 → parseQ (a ++ 10 :: b) = ((parseQ a).1 ++ (parseQ b).1, 0, 0)) := by
  have hc : (a ++ 10 :: b).length ≤ 1048576 := by simp; omega
  obtain ⟨e, he, hl⟩ := linesGo_join b a []
  have hl' : linesB (a ++ 10 :: b) = linesB a ++ (e ++ linesB b) := by
    show linesGo [] _ = linesGo [] a ++ _
    rw [hl, List.append_assoc]
  have hskip : ∀ st, runQ st .p0 (e ++ linesB b) = runQ st .p0 (linesB b) := by
    intro st
    rcases he with rfl | rfl
    · rfl
    · rfl
  rcases parse_cases a (by omega) with ⟨sa, ha1, ha2⟩ | ⟨ha1, j, hj1, hj2, ha2⟩ | ⟨s, ha1, ha3, ha2⟩
  · have hrun : runQ [] .p0 (linesB (a ++ 10 :: b)) = runQ sa .p0 (linesB b) := by
      rw [hl', run_append, ha1]; exact hskip sa
    have hwa : sa.length ≤ 256 := by
      have := (run_weight _ ha1).2 (by simp [weight]); simpa [weight] using this
    rw [ha2]
    refine ⟨fun h => absurd rfl h, fun _ hbad => ?_, fun _ hb0 hlen => ?_⟩
    · -- something is wrong behind
      have hno : ∀ t, runQ sa .p0 (linesB b) = some (t, .p0) → False := by
        intro t ht
        have hwt : t.length ≤ 256 := by
          have := (run_weight _ ht).2 (by simpa [weight] using hwa); simpa [weight] using this
        obtain ⟨u, hu1, hu2⟩ := run_back (linesB b) (s := []) (a := sa) ht
        rcases parse_cases b (by omega) with ⟨sb, hb1, hb2⟩ | ⟨hb1, _⟩ | ⟨s, hb1, hb3, _⟩
        · rw [hb2] at hbad
          rw [hb1] at hu1
          cases hu1
          simp only [] at hu2
          rcases hbad with h | h
          · exact h rfl
          · simp at h
            have := congrArg List.length hu2
            simp at this; omega
        · rw [hb1] at hu1; cases hu1
        · rw [hb1] at hu1; cases hu1; cases hb3
      rcases parse_cases (a ++ 10 :: b) hc with ⟨sc, hc1, _⟩ | ⟨_, j, hj1, _, hc2⟩ | ⟨s, _, _, hc2⟩
      · rw [hrun] at hc1; exact absurd hc1 (fun h => hno sc h)
      · exact ⟨j, hj1, hc2⟩
      · exact ⟨_, by omega, hc2⟩
    · rcases parse_cases b (by omega) with ⟨sb, hb1, hb2⟩ | ⟨_, j, _, _, hb2⟩ | ⟨s, _, _, hb2⟩
      · rw [hb2] at hlen ⊢
        simp only [List.length_reverse] at hlen
        have h1 := run_ahead (linesB b) (s := []) (a := sa) hb1 (by simp [weight]; omega)
        rw [parse_go _ hc, goQ_some _ _ _ _ 0 (hrun.trans h1)]
        simp
      · rw [hb2] at hb0; cases hb0
      · rw [hb2] at hb0; cases hb0
  · refine ⟨fun _ => .inr ?_, fun h => (by rw [ha2] at h; cases h), fun h => (by rw [ha2] at h; cases h)⟩
    obtain ⟨j2, _, _, h3, h4⟩ := goQ_none (linesB a) (e ++ linesB b) [] .p0 0 ha1
    rw [parse_go _ hc, hl', h4, parse_go a (by omega), h3]
    exact ⟨rfl, rfl⟩
  · refine ⟨fun _ => .inl ?_, fun h => (by rw [ha2] at h; cases h), fun h => (by rw [ha2] at h; cases h)⟩
    rw [ha2]; exact Nat.lt_succ_self _
end Go.Proofs.Ytcpoiaclicmmmaa
