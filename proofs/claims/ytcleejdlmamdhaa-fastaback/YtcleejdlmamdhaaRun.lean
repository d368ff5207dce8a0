/-
  What is read of lines, in plain lists: a run over lines; empty lines say nothing; two files one behind the other; a text with bytes 13 and line feeds more.
-/
import Derived.Test.YtcleejdlmamdhaaPlain
namespace Go.Proofs.Ytcleejdlmamdhaa

def runB (st : List Pq) : List (List UInt8) → Option (List Pq)
  | [] => some st
  | l :: ls => match stepB st l with
    | none => none
    | some st' => runB st' ls
theorem go_some (ls : List (List UInt8)) : ∀ (st st' : List Pq) (k : Nat), runB st ls = some st' → goB st k ls = if openB st' then ([], k + ls.length + 1, 20) else (st'.reverse, 0, 0) := by
  induction ls with
  | nil => intro st st' k h; cases h; rfl
  | cons l ls ih =>
    intro st st' k h
    simp only [runB] at h
    simp only [goB]
    cases hs : stepB st l with
    | none => rw [hs] at h; cases h
    | some s =>
      rw [hs] at h
      simp only [] at h ⊢
      rw [ih s st' (k + 1) h, List.length_cons, show k + 1 + ls.length + 1 = k + (ls.length + 1) + 1 by omega]
theorem go_none (ls : List (List UInt8)) : ∀ (st : List Pq) (k : Nat), runB st ls = none → ∃ j, 1 ≤ j ∧ goB st k ls = ([], j, 20) := by
  induction ls with
  | nil => intro st k h; cases h
  | cons l ls ih =>
    intro st k h
    simp only [runB] at h
    simp only [goB]
    cases hs : stepB st l with
    | none => exact ⟨k + 1, by omega, rfl⟩
    | some s => rw [hs] at h; exact ih s (k + 1) h
/-- What Parse tells: nothing but ErrLong, ErrFasta at a line, or sequences. -/
theorem parse_cases (t : List UInt8) (h : t.length ≤ 1048576) :
    (∃ st, runB [] (linesB t) = some st ∧ openB st = false ∧ parseB t = (st.reverse, 0, 0)) ∨
    ((runB [] (linesB t) = none ∨ ∃ st, runB [] (linesB t) = some st ∧ openB st = true) ∧ ∃ j, 1 ≤ j ∧ parseB t = ([], j, 20)) := by
  have e : parseB t = goB [] 0 (linesB t) := by unfold parseB; rw [if_neg (by omega)]
  rw [e]
  cases hr : runB [] (linesB t) with
  | none => exact .inr ⟨.inl rfl, go_none _ _ _ hr⟩
  | some st =>
    have hg := go_some (linesB t) [] st 0 hr
    cases ho : openB st with
    | true => exact .inr ⟨.inr ⟨st, rfl, ho⟩, 0 + (linesB t).length + 1, by omega, by rw [hg, ho]; rfl⟩
    | false => exact .inl ⟨st, rfl, ho, by rw [hg, ho]; rfl⟩
theorem parse_long (t : List UInt8) (h : 1048576 < t.length) : parseB t = ([], 0, 2) := by unfold parseB; rw [if_pos h]
theorem run_append (a b : List (List UInt8)) : ∀ st, runB st (a ++ b) = (runB st a).bind fun s => runB s b := by
  induction a with
  | nil => intro st; rfl
  | cons l a ih =>
    intro st
    simp only [List.cons_append, runB]
    cases stepB st l with
    | none => rfl
    | some s => exact ih s
theorem run_filter (ls : List (List UInt8)) : ∀ st, runB st ls = runB st (ls.filter fun l => decide (l ≠ [])) := by
  induction ls with
  | nil => intro st; rfl
  | cons l ls ih =>
    intro st
    cases l with
    | nil => simp only [runB, stepB]; rw [ih st]; rfl
    | cons c r =>
      rw [List.filter_cons_of_pos (by simp)]
      simp only [runB]
      cases stepB st (c :: r) with
      | none => rfl
      | some s => exact ih s
theorem linesGo_join (b a : List UInt8) : ∀ cur, ∃ e : List (List UInt8), (e = [] ∨ e = [[]]) ∧ linesGo cur (a ++ 10 :: b) = linesGo cur a ++ e ++ linesB b := by
  induction a with
  | nil =>
    intro cur
    by_cases h : cur = []
    · subst h; exact ⟨[[]], .inr rfl, by simp [linesGo, trimB, linesB]⟩
    · exact ⟨[], .inl rfl, by simp [linesGo, h, linesB]⟩
  | cons c r ih =>
    intro cur
    by_cases h : c = 10
    · subst h
      obtain ⟨e, he, h2⟩ := ih []
      exact ⟨e, he, by simp only [List.cons_append, linesGo, if_pos]; rw [h2]⟩
    · obtain ⟨e, he, h2⟩ := ih (cur ++ [c])
      exact ⟨e, he, by simp only [List.cons_append, linesGo, if_neg h]; rw [h2]⟩
theorem run_join (a b : List UInt8) (st : List Pq) : runB st (linesB (a ++ 10 :: b)) = (runB st (linesB a)).bind fun s => runB s (linesB b) := by
  obtain ⟨e, he, h2⟩ := linesGo_join b a []
  have h3 : linesB (a ++ 10 :: b) = linesB a ++ e ++ linesB b := h2
  rw [h3, run_append, run_append]
  rcases he with rfl | rfl
  · cases runB st (linesB a) <;> rfl
  · cases runB st (linesB a) <;> rfl

/-! Sequences ahead -/
def names (st : List Pq) : List (List UInt8) := st.map fun q => q.1
theorem namedB_mem (st : List Pq) (n : List UInt8) : namedB st n = true ↔ n ∈ names st := by
  unfold namedB names
  rw [List.any_eq_true]
  simp only [decide_eq_true_eq, List.mem_map]
theorem namedB_append (a b : List Pq) (n : List UInt8) : namedB (a ++ b) n = (namedB a n || namedB b n) := by
  unfold namedB; rw [List.any_append]
/-- One line more: the names that were there stay; it adds one at most. -/
theorem step_names {s s' : List Pq} {l : List UInt8} (h : stepB s l = some s') : names s' = names s ∨ ∃ n, names s' = n :: names s ∧ namedB s n = false := by
  cases l with
  | nil => cases h; exact .inl rfl
  | cons c r =>
    have h' : (if c = 62 then beginB s r else addB s (c :: r)) = some s' := h
    split at h'
    · unfold beginB at h'
      split at h'
      · rename_i hc
        simp only [Bool.and_eq_true, Bool.not_eq_true'] at hc
        cases h'
        exact .inr ⟨_, rfl, hc.2.1⟩
      · cases h'
    · cases s with
      | nil => cases h'
      | cons q t =>
        simp only [addB] at h'
        split at h'
        · cases h'; exact .inl rfl
        · cases h'
theorem run_names (ls : List (List UInt8)) : ∀ (s s' : List Pq), runB s ls = some s' → ∀ n, n ∈ names s → n ∈ names s' := by
  induction ls with
  | nil => intro s s' h n hn; cases h; exact hn
  | cons l ls ih =>
    intro s s' h n hn
    simp only [runB] at h
    cases hs : stepB s l with
    | none => rw [hs] at h; cases h
    | some s1 =>
      rw [hs] at h
      refine ih s1 s' h n ?_
      rcases step_names hs with e | ⟨m, e, _⟩
      · rw [e]; exact hn
      · rw [e]; exact List.mem_cons_of_mem _ hn
theorem step_length {s s' : List Pq} {l : List UInt8} (h : stepB s l = some s') : s.length ≤ s'.length := by
  rcases step_names h with e | ⟨m, e, _⟩
  · have := congrArg List.length e; simp [names] at this; omega
  · have := congrArg List.length e; simp [names] at this; omega
theorem run_length (ls : List (List UInt8)) : ∀ (s s' : List Pq), runB s ls = some s' → s.length ≤ s'.length := by
  induction ls with
  | nil => intro s s' h; cases h; exact Nat.le_refl _
  | cons l ls ih =>
    intro s s' h
    simp only [runB] at h
    cases hs : stepB s l with
    | none => rw [hs] at h; cases h
    | some s1 => rw [hs] at h; exact Nat.le_trans (step_length hs) (ih s1 s' h)
/-- A line that is taken, behind sequences that stand ahead: it is taken, if it brings no name of theirs and they are not too many. -/
theorem step_ahead {s s' a : List Pq} {l : List UInt8} (ha : openB a = false) (h : stepB s l = some s') (hn : ∀ n, n ∈ names s' → n ∉ names a) (hl : s'.length + a.length ≤ 64) : stepB (s ++ a) l = some (s' ++ a) := by
  cases l with
  | nil => cases h; rfl
  | cons c r =>
    have h' : (if c = 62 then beginB s r else addB s (c :: r)) = some s' := h
    show (if c = 62 then beginB (s ++ a) r else addB (s ++ a) (c :: r)) = some (s' ++ a)
    split at h'
    · rename_i hc
      rw [if_pos hc]
      unfold beginB at h' ⊢
      split at h'
      · rename_i hcond
        simp only [Bool.and_eq_true, Bool.not_eq_true', decide_eq_true_eq] at hcond
        cases h'
        rw [if_pos]
        · rfl
        · simp only [Bool.and_eq_true, Bool.not_eq_true', decide_eq_true_eq]
          refine ⟨hcond.1, ?_, by simp at hl ⊢; omega, ?_⟩
          · rw [namedB_append, hcond.2.1]
            simp only [Bool.false_or]
            rw [Bool.eq_false_iff]
            intro e
            exact hn (headB 32 r) (by simp [names]) ((namedB_mem a _).1 e)
          · cases s with
            | nil => exact ha
            | cons q t => exact hcond.2.2.2
      · cases h'
    · rename_i hc
      rw [if_neg hc]
      cases s with
      | nil => cases h'
      | cons q t =>
        simp only [addB] at h'
        simp only [List.cons_append, addB]
        split at h'
        · rename_i hcond
          cases h'
          rw [if_pos hcond]; rfl
        · cases h'
theorem run_ahead (ls : List (List UInt8)) : ∀ (s s' a : List Pq), openB a = false → runB s ls = some s' → (∀ n, n ∈ names s' → n ∉ names a) → s'.length + a.length ≤ 64 → runB (s ++ a) ls = some (s' ++ a) := by
  induction ls with
  | nil => intro s s' a _ h _ _; cases h; rfl
  | cons l ls ih =>
    intro s s' a ha h hn hl
    simp only [runB] at h
    cases hs : stepB s l with
    | none => rw [hs] at h; cases h
    | some s1 =>
      rw [hs] at h
      have h1 := step_ahead ha hs (fun n hm => hn n (run_names ls s1 s' h n hm)) (by have := run_length ls s1 s' h; omega)
      simp only [runB]
      rw [h1]
      exact ih s1 s' a ha h hn hl
/-- A name that is in both: some line is wrong. -/
theorem step_clash {s s' a : List Pq} {l : List UInt8} {n : List UInt8} (h : stepB s l = some s') (hs : ∀ n, n ∈ names s → n ∉ names a) (hm : n ∈ names s') (hma : n ∈ names a) : stepB (s ++ a) l = none := by
  rcases step_names h with e | ⟨m, e, hm2⟩
  · rw [e] at hm; exact absurd hma (hs n hm)
  · rw [e] at hm
    rcases List.mem_cons.1 hm with rfl | hm
    · cases l with
      | nil => cases h; exact absurd e (fun e => by have := congrArg List.length e; simp at this)
      | cons c r =>
        have h' : (if c = 62 then beginB s r else addB s (c :: r)) = some s' := h
        show (if c = 62 then beginB (s ++ a) r else addB (s ++ a) (c :: r)) = none
        split at h'
        · rename_i hc
          rw [if_pos hc]
          unfold beginB at h' ⊢
          split at h'
          · cases h'
            have e2 : headB 32 r = n := by
              have := congrArg List.head? e; simpa [names] using this
            rw [if_neg]
            intro hcond
            simp only [Bool.and_eq_true, Bool.not_eq_true'] at hcond
            have h3 := hcond.2.1
            rw [e2, namedB_append, (namedB_mem a n).2 hma] at h3
            simp at h3
          · cases h'
        · exfalso
          cases s with
          | nil => cases h'
          | cons q t =>
            simp only [addB] at h'
            split at h'
            · cases h'
              have := congrArg List.length e; simp [names] at this
            · cases h'
    · exact absurd hma (hs n hm)
theorem run_clash (ls : List (List UInt8)) : ∀ (s s' a : List Pq) (n : List UInt8), openB a = false → runB s ls = some s' → (∀ n, n ∈ names s → n ∉ names a) → n ∈ names s' → n ∈ names a → s'.length + a.length ≤ 64 → runB (s ++ a) ls = none := by
  induction ls with
  | nil => intro s s' a n _ h hs hm hma; cases h; exact absurd hma (hs n hm)
  | cons l ls ih =>
    intro s s' a n ha h hs hm hma hl
    simp only [runB] at h
    cases hst : stepB s l with
    | none => rw [hst] at h; cases h
    | some s1 =>
      rw [hst] at h
      simp only [runB]
      by_cases hd : ∀ k, k ∈ names s1 → k ∉ names a
      · rw [step_ahead ha hst hd (by have := run_length ls s1 s' h; omega)]
        exact ih s1 s' a n ha h hd hm hma hl
      · obtain ⟨k, hk⟩ := Classical.not_forall.1 hd
        have hk1 : k ∈ names s1 := Classical.byContradiction fun h1 => hk fun h2 => absurd h2 h1
        have hk2 : k ∈ names a := Classical.byContradiction fun h1 => hk fun _ => h1
        rw [step_clash hst hs hk1 hk2]

/-- Two files, one behind the other. -/
theorem parse_join (a b : List UInt8) (la lb : List Pq) (ja jb : Nat) (ha : parseB a = (la, ja, 0)) (hb : parseB b = (lb, jb, 0)) (hs : a.length + b.length < 1048576) (hl : la.length + lb.length ≤ 64) :
    ((∀ n, n ∈ names lb → n ∉ names la) → parseB (a ++ 10 :: b) = (la ++ lb, 0, 0)) ∧
    ((∃ n, n ∈ names la ∧ n ∈ names lb) → ∃ j, 1 ≤ j ∧ parseB (a ++ 10 :: b) = ([], j, 20)) := by
  have hsz : (a ++ 10 :: b).length ≤ 1048576 := by simp; omega
  rcases parse_cases a (by omega) with ⟨sa, ra, oa, pa⟩ | ⟨_, j, _, pa⟩
  · rcases parse_cases b (by omega) with ⟨sb, rb, ob, pb⟩ | ⟨_, j, _, pb⟩
    · have e1 : la = sa.reverse := by rw [ha] at pa; exact (Prod.mk.inj pa).1
      have e2 : lb = sb.reverse := by rw [hb] at pb; exact (Prod.mk.inj pb).1
      subst e1; subst e2
      have hn : ∀ (s : List Pq) n, n ∈ names s.reverse ↔ n ∈ names s := by intro s n; simp [names]
      have hj := run_join a b []
      rw [ra] at hj
      simp only [Option.bind_some] at hj
      refine ⟨fun hd => ?_, fun ⟨n, h1, h2⟩ => ?_⟩
      · have h3 := run_ahead (linesB b) [] sb sa oa rb (fun n h1 h2 => hd n ((hn sb n).2 h1) ((hn sa n).2 h2)) (by simp at hl; omega)
        rw [List.nil_append] at h3
        rw [h3] at hj
        have hob : openB (sb ++ sa) = false := by
          cases sb with
          | nil => exact oa
          | cons q t => exact ob
        rcases parse_cases (a ++ 10 :: b) hsz with ⟨s, r, o, p⟩ | ⟨h4 | ⟨s, r, o⟩, _⟩
        · rw [hj] at r; cases r
          rw [p, List.reverse_append]
        · rw [hj] at h4; cases h4
        · rw [hj] at r; cases r; rw [hob] at o; cases o
      · have h3 := run_clash (linesB b) [] sb sa n oa rb (by simp [names]) ((hn sb n).1 h2) ((hn sa n).1 h1) (by simp at hl; omega)
        rw [List.nil_append] at h3
        rw [h3] at hj
        rcases parse_cases (a ++ 10 :: b) hsz with ⟨s, r, o, p⟩ | ⟨_, h5⟩
        · rw [hj] at r; cases r
        · exact h5
    · rw [hb] at pb; cases pb
  · rw [ha] at pa; cases pa

/-! A text with a byte 13 ahead of some line feeds, and an empty line more behind some -/
def looseGo (f g : Nat → Bool) (prev : Option UInt8) (i : Nat) : List UInt8 → List UInt8
  | [] => []
  | c :: r => (if c = 10 ∧ f i = true ∧ prev ≠ some 13 then [13] else []) ++ (c :: ((if c = 10 ∧ g i = true then [10] else []) ++ looseGo f g (some c) (i + 1) r))
theorem trimB_13 (cur : List UInt8) (h : cur.getLast? ≠ some 13) : trimB (cur ++ [13]) = cur ∧ trimB cur = cur := by
  constructor
  · unfold trimB; rw [if_pos (by simp)]; simp
  · unfold trimB; rw [if_neg h]
def full (ls : List (List UInt8)) : List (List UInt8) := ls.filter fun l => decide (l ≠ [])
theorem full_cons_nil (ls : List (List UInt8)) : full ([] :: ls) = full ls := rfl
theorem full_cons (l : List UInt8) (a b : List (List UInt8)) (h : full a = full b) : full (l :: a) = full (l :: b) := by
  unfold full at *
  by_cases hl : l = []
  · subst hl; simpa using h
  · rw [List.filter_cons_of_pos (by simpa using hl), List.filter_cons_of_pos (by simpa using hl), h]
theorem loose_lines (f g : Nat → Bool) (l : List UInt8) : ∀ (cur : List UInt8) (prev : Option UInt8) (i : Nat), (cur.getLast? = some 13 → prev = some 13) → full (linesGo cur (looseGo f g prev i l)) = full (linesGo cur l) := by
  induction l with
  | nil => intro cur prev i _; rfl
  | cons c r ih =>
    intro cur prev i hp
    by_cases hc : c = 10
    · subst hc
      have hr := ih [] (some 10) (i + 1) (by simp)
      have h2 : ∀ pre, full (pre :: linesGo [] ((if (10 : UInt8) = 10 ∧ g i = true then [10] else []) ++ looseGo f g (some 10) (i + 1) r)) = full (pre :: linesGo [] r) := by
        intro pre
        apply full_cons
        by_cases hg : g i = true
        · rw [if_pos ⟨rfl, hg⟩]
          show full (if (10 : UInt8) = 10 then trimB [] :: linesGo [] _ else _) = _
          rw [if_pos rfl]
          exact (full_cons_nil _).trans hr
        · rw [if_neg (fun h => hg h.2)]; exact hr
      have e2 : linesGo cur (10 :: r) = trimB cur :: linesGo [] r := rfl
      rw [e2]
      by_cases hf : f i = true ∧ prev ≠ some 13
      · have h3 := trimB_13 cur (fun h => hf.2 (hp h))
        have e1 : looseGo f g prev i (10 :: r) = 13 :: 10 :: ((if (10 : UInt8) = 10 ∧ g i = true then [10] else []) ++ looseGo f g (some 10) (i + 1) r) := by
          simp only [looseGo]; rw [if_pos ⟨trivial, hf⟩]; rfl
        rw [e1]
        have e3 : ∀ z, linesGo cur (13 :: 10 :: z) = trimB (cur ++ [13]) :: linesGo [] z := fun z => rfl
        rw [e3, h3.1, h3.2]
        exact h2 _
      · have e1 : looseGo f g prev i (10 :: r) = 10 :: ((if (10 : UInt8) = 10 ∧ g i = true then [10] else []) ++ looseGo f g (some 10) (i + 1) r) := by
          simp only [looseGo]; rw [if_neg (fun h => hf h.2)]; rfl
        rw [e1]
        have e3 : ∀ z, linesGo cur (10 :: z) = trimB cur :: linesGo [] z := fun z => rfl
        rw [e3]
        exact h2 _
    · have e1 : looseGo f g prev i (c :: r) = c :: looseGo f g (some c) (i + 1) r := by
        simp only [looseGo]; rw [if_neg (fun h => hc h.1), if_neg (fun h => hc h.1)]; rfl
      rw [e1]
      have e3 : ∀ z, linesGo cur (c :: z) = linesGo (cur ++ [c]) z := fun z => by simp [linesGo, hc]
      rw [e3, e3]
      exact ih (cur ++ [c]) (some c) (i + 1) (by simp)
theorem loose_run (f g : Nat → Bool) (t : List UInt8) (st : List Pq) : runB st (linesB (looseGo f g none 0 t)) = runB st (linesB t) := by
  rw [run_filter (linesB _), run_filter (linesB t)]
  have := loose_lines f g t [] none 0 (by simp)
  unfold full at this
  unfold linesB
  rw [this]
theorem loose_length (f g : Nat → Bool) (t : List UInt8) : ∀ prev i, t.length ≤ (looseGo f g prev i t).length ∧ (looseGo f g prev i t).length ≤ 3 * t.length := by
  induction t with
  | nil => intro prev i; simp [looseGo]
  | cons c r ih =>
    intro prev i
    have := ih (some c) (i + 1)
    have h1 : ∀ p : Prop, [Decidable p] → (if p then [(13 : UInt8)] else []).length ≤ 1 := by intro p _; split <;> simp
    have h2 : ∀ p : Prop, [Decidable p] → (if p then [(10 : UInt8)] else []).length ≤ 1 := by intro p _; split <;> simp
    have h3 := h1 (c = 10 ∧ f i = true ∧ prev ≠ some 13)
    have h4 := h2 (c = 10 ∧ g i = true)
    simp only [looseGo, List.length_append, List.length_cons]
    omega
/-- What is read of a loosened text. -/
theorem parse_loose (f g : Nat → Bool) (t : List UInt8) (hz : (looseGo f g none 0 t).length ≤ 1048576) :
    (∃ l, parseB t = (l, 0, 0) ∧ parseB (looseGo f g none 0 t) = (l, 0, 0)) ∨ (∃ j k, 1 ≤ k ∧ parseB t = ([], j, 20) ∧ parseB (looseGo f g none 0 t) = ([], k, 20)) := by
  have ht : t.length ≤ 1048576 := Nat.le_trans (loose_length f g t none 0).1 hz
  have hr := loose_run f g t []
  rcases parse_cases t ht with ⟨s, r, o, p⟩ | ⟨h1, j, _, p⟩
  · rcases parse_cases _ hz with ⟨s', r', o', p'⟩ | ⟨h2 | ⟨s', r', o'⟩, _⟩
    · rw [hr, r] at r'; cases r'
      exact .inl ⟨s.reverse, p, p'⟩
    · rw [hr, r] at h2; cases h2
    · rw [hr, r] at r'; cases r'; rw [o] at o'; cases o'
  · rcases parse_cases _ hz with ⟨s', r', o', p'⟩ | ⟨_, k, hk, p'⟩
    · rcases h1 with h1 | ⟨s, r, o⟩
      · rw [hr, h1] at r'; cases r'
      · rw [hr, r] at r'; cases r'; rw [o] at o'; cases o'
    · exact .inr ⟨j, k, hk, p, p'⟩
end Go.Proofs.Ytcleejdlmamdhaa
