/-
  What is written is read as it was, in plain lists; so it is in other forms.
-/
import Derived.Test.YtcpoiaclicmmmaaRun
import Derived.Test.YtcpoiaclicmmmaaPrintPlain
namespace Go.Proofs.Ytcpoiaclicmmmaa

theorem linesGo_free (z x : List UInt8) : ∀ cur, 10 ∉ x → linesGo cur (x ++ 10 :: z) = trimB (cur ++ x) :: linesGo [] z := by
  induction x with
  | nil => intro cur _; simp [linesGo]
  | cons c r ih =>
    intro cur h
    have h1 : c ≠ 10 := fun e => h (by simp [e])
    have e : linesGo cur (c :: (r ++ 10 :: z)) = linesGo (cur ++ [c]) (r ++ 10 :: z) := by simp [linesGo, h1]
    rw [List.cons_append, e, ih _ (fun hm => h (List.mem_cons_of_mem _ hm))]
    simp
theorem trimB_same (x : List UInt8) (h : 13 ∉ x) : trimB x = x := by
  unfold trimB
  rw [if_neg]
  intro e
  exact h (List.mem_of_getLast? e)
theorem letter_range {c : UInt8} (h : isLetB c = true) : 65 ≤ c.toNat ∧ c.toNat ≤ 122 := by
  simp only [isLetB, Bool.or_eq_true, Bool.and_eq_true, decide_eq_true_eq] at h
  omega
theorem letter_not {c : UInt8} (h : isLetB c = true) (n : UInt8) (hn : n.toNat < 65) : c ≠ n := by
  intro e; subst e; have := letter_range h; omega
theorem in_not {lo hi : Nat} {l : List UInt8} (h : allIn lo hi l = true) (n : UInt8) (hn : n.toNat < lo) : n ∉ l := by
  intro hm
  have := List.all_eq_true.1 h n hm
  simp only [inB, Bool.and_eq_true, decide_eq_true_eq] at this
  omega
theorem head_join {n o : List UInt8} (hn : nameB n = true) (ho : noteB o = true) : titleOkB (joinB n o) = true ∧ headB 32 (joinB n o) = n ∧ tailB 32 (joinB n o) = o ∧ (10 : UInt8) ∉ joinB n o ∧ (13 : UInt8) ∉ joinB n o := by
  have hn2 := hn
  have ho2 := ho
  simp only [nameB, noteB, Bool.and_eq_true, decide_eq_true_eq] at hn2 ho2
  have hno : (32 : UInt8) ∉ n := in_not hn2.2.2.1 32 (by decide)
  have h1 : (10 : UInt8) ∉ n := in_not hn2.2.2.1 10 (by decide)
  have h2 : (13 : UInt8) ∉ n := in_not hn2.2.2.1 13 (by decide)
  have h3 : (10 : UInt8) ∉ o := in_not ho2.2.1 10 (by decide)
  have h4 : (13 : UInt8) ∉ o := in_not ho2.2.1 13 (by decide)
  by_cases he : o = []
  · subst he
    have e : joinB n [] = n := by simp [joinB]
    rw [e]
    refine ⟨?_, headB_not_mem hno, tailB_not_mem hno, h1, h2⟩
    unfold titleOkB
    rw [headB_not_mem hno, tailB_not_mem hno, hn]
    have : hasB 32 n = false := by simp [hasB, hno]
    rw [this]; simp [noteB, allIn]
  · have e : joinB n o = n ++ 32 :: o := by unfold joinB; rw [if_neg he]
    have hh : ∀ (a : List UInt8), (32 : UInt8) ∉ a → headB 32 (a ++ 32 :: o) = a ∧ tailB 32 (a ++ 32 :: o) = o := by
      intro a
      induction a with
      | nil => intro _; exact ⟨headB_cons_eq .., tailB_cons_eq ..⟩
      | cons d t ih =>
        intro hd
        have hd1 : d ≠ 32 := fun e => hd (by simp [e])
        have := ih (fun hm => hd (List.mem_cons_of_mem _ hm))
        rw [List.cons_append, headB_cons_ne hd1, tailB_cons_ne hd1, this.1, this.2]; exact ⟨rfl, rfl⟩
    rw [e]
    obtain ⟨e1, e2⟩ := hh n hno
    refine ⟨?_, e1, e2, by simp [h1, h3], by simp [h2, h4]⟩
    unfold titleOkB
    rw [e1, e2, hn, ho]
    simp [he]

/-- A read as its four lines, with ends of lines 'e', the title behind the mark or not, an empty line ahead or not. -/
def twB (e : List UInt8) (m2 m4 : Bool) (q : Pr) : List UInt8 :=
  (if m4 then e else []) ++ ((64 :: joinB q.1 q.2.1) ++ e ++ (q.2.2.1 ++ e ++ ((if m2 then 43 :: joinB q.1 q.2.1 else [43]) ++ e ++ (q.2.2.2 ++ e))))
def allTw (e : List UInt8) (m2 m4 : Bool) (l : List Pr) : List UInt8 := (l.map (twB e m2 m4)).flatten
theorem tw_rec (q : Pr) : twB [10] false false q = recB q := by
  simp [twB, recB]
theorem tw_all (l : List Pr) : allTw [10] false false l = allQ l := by
  unfold allTw allQ
  congr 1
theorem line_end {e x z : List UInt8} (he : e = [10] ∨ e = [13, 10]) (h10 : (10 : UInt8) ∉ x) (h13 : (13 : UInt8) ∉ x) : linesB (x ++ e ++ z) = x :: linesB z := by
  unfold linesB
  rcases he with rfl | rfl
  · rw [show x ++ [10] ++ z = x ++ 10 :: z by simp, linesGo_free z x [] h10, List.nil_append, trimB_same x h13]
  · rw [show x ++ [13, 10] ++ z = (x ++ [13]) ++ 10 :: z by simp, linesGo_free z (x ++ [13]) [] (by simp [h10]), List.nil_append]
    congr 1
    simp [trimB]
theorem lets_not {l : List UInt8} (h : letsB l = true) (n : UInt8) (hn : n.toNat < 65) : n ∉ l := by
  intro hm
  exact letter_not (List.all_eq_true.1 h n hm) n hn rfl
theorem run_read {e : List UInt8} (he : e = [10] ∨ e = [13, 10]) (m2 m4 : Bool) (rest : List UInt8) (q : Pr) (st : List Pr) (hq : okQ q = true) (hl : st.length < 256) :
    runQ st .p0 (linesB (twB e m2 m4 q ++ rest)) = runQ (q :: st) .p0 (linesB rest) := by
  have hq2 := hq
  simp only [okQ, Bool.and_eq_true] at hq
  obtain ⟨h1, h2, h3, h4, h5⟩ := head_join hq.1 hq.2.1
  have hb := hq.2.2.1
  simp only [basesB, Bool.and_eq_true, decide_eq_true_eq] at hb
  have hs := hq.2.2.2
  simp only [lastB, Bool.and_eq_true, decide_eq_true_eq] at hs
  have hskip : runQ st .p0 (linesB (twB e m2 m4 q ++ rest)) = runQ st .p0 (linesB (twB e m2 false q ++ rest)) := by
    cases m4 with
    | false => rfl
    | true =>
      have e1 : twB e m2 true q ++ rest = [] ++ e ++ (twB e m2 false q ++ rest) := by simp [twB]
      rw [e1, line_end he (by simp) (by simp)]
      rfl
  rw [hskip]
  have e1 : twB e m2 false q ++ rest = (64 :: joinB q.1 q.2.1) ++ e ++ (q.2.2.1 ++ e ++ ((if m2 then 43 :: joinB q.1 q.2.1 else [43]) ++ e ++ (q.2.2.2 ++ e ++ rest))) := by
    simp [twB]
  have hm10 : (10 : UInt8) ∉ (if m2 then 43 :: joinB q.1 q.2.1 else [43]) ∧ (13 : UInt8) ∉ (if m2 then 43 :: joinB q.1 q.2.1 else [43]) := by
    cases m2 <;> simp [h4, h5]
  rw [e1, line_end he (by simp [h4]) (by simp [h5]), line_end he (lets_not hb.2.2 10 (by decide)) (lets_not hb.2.2 13 (by decide)), line_end he hm10.1 hm10.2, line_end he (in_not hs.2 10 (by decide)) (in_not hs.2 13 (by decide))]
  have s0 : stepQ st .p0 (64 :: joinB q.1 q.2.1) = some (st, .p1 (joinB q.1 q.2.1)) := by
    rw [step0, if_neg (by simp), if_pos (by simp [firstB, h1, hl])]; rfl
  have s1 : stepQ st (.p1 (joinB q.1 q.2.1)) q.2.2.1 = some (st, .p2 (joinB q.1 q.2.1) q.2.2.1) := by
    rw [step1, if_pos hq.2.2.1]
  have s2 : stepQ st (.p2 (joinB q.1 q.2.1) q.2.2.1) (if m2 then 43 :: joinB q.1 q.2.1 else [43]) = some (st, .p3 (joinB q.1 q.2.1) q.2.2.1) := by
    rw [step2, if_pos (by cases m2 <;> simp [markB])]
  have s3 : stepQ st (.p3 (joinB q.1 q.2.1) q.2.2.1) q.2.2.2 = some (q :: st, .p0) := by
    rw [step3, if_pos hq.2.2.2]
    simp [readOf, h2, h3]
  simp only [runQ, s0, s1, s2, s3]
theorem run_all {e : List UInt8} (he : e = [10] ∨ e = [13, 10]) (m2 m4 : Bool) (l : List Pr) : ∀ (st : List Pr), (∀ q ∈ l, okQ q = true) → st.length + l.length ≤ 256 → runQ st .p0 (linesB (allTw e m2 m4 l)) = some (l.reverse ++ st, .p0) := by
  induction l with
  | nil =>
    intro st _ _
    simp [allTw, linesB_nil, runQ]
  | cons q r ih =>
    intro st hok hl
    have e1 : allTw e m2 m4 (q :: r) = twB e m2 m4 q ++ allTw e m2 m4 r := by simp [allTw]
    rw [e1, run_read he m2 m4 _ q st (hok q (by simp)) (by simp at hl; omega), ih (q :: st) (fun p hp => hok p (by simp [hp])) (by simp at hl ⊢; omega)]
    simp
/-- There and back, in each form. -/
theorem tw_back {e : List UInt8} (he : e = [10] ∨ e = [13, 10]) (m2 m4 : Bool) (l : List Pr) (hok : ∀ q ∈ l, okQ q = true) (hl : l.length ≤ 256) (hs : (allTw e m2 m4 l).length ≤ 1048576) : parseQ (allTw e m2 m4 l) = (l, 0, 0) := by
  rw [parse_go _ hs, goQ_some _ _ _ _ 0 (run_all he m2 m4 l [] hok (by simpa using hl))]
  simp
theorem print_ok {l : List Pr} (h : (printQ l).2 = 0) : l.length ≤ 256 ∧ (∀ q ∈ l, okQ q = true) ∧ (allQ l).length ≤ 1048576 ∧ (printQ l).1 = allQ l := by
  unfold printQ at h ⊢
  by_cases h2 : 256 < l.length
  · rw [if_pos h2] at h; cases h
  rw [if_neg h2] at h ⊢
  by_cases h3 : l.all okQ = false
  · rw [if_pos h3] at h; cases h
  rw [if_neg h3] at h ⊢
  by_cases h4 : 1048576 < (allQ l).length
  · rw [if_pos h4] at h; cases h
  rw [if_neg h4]
  exact ⟨by omega, fun q hq => List.all_eq_true.1 (by simpa using h3) q hq, by omega, rfl⟩
theorem print_bad {l : List Pr} (h : (printQ l).2 ≠ 0) : (printQ l).1 = [] := by
  unfold printQ at h ⊢
  split
  · rfl
  · split
    · rfl
    · split
      · rfl
      · rename_i h2 h3 h4
        rw [if_neg h2, if_neg h3, if_neg h4] at h; exact absurd rfl h
theorem print_back (l : List Pr) (h : (printQ l).2 = 0) : parseQ (printQ l).1 = (l, 0, 0) := by
  obtain ⟨h1, h2, h3, h4⟩ := print_ok h
  rw [h4, ← tw_all]
  exact tw_back (.inl rfl) false false l h2 h1 (by rw [tw_all]; exact h3)
theorem tw_length {e : List UInt8} (he : e = [10] ∨ e = [13, 10]) (m2 m4 : Bool) (q : Pr) (h : okQ q = true) : (twB e m2 m4 q).length ≤ 131500 := by
  simp only [okQ, nameB, noteB, basesB, lastB, Bool.and_eq_true, decide_eq_true_eq] at h
  have h2 := join_length q.1 q.2.1
  have h3 : e.length ≤ 2 := by rcases he with rfl | rfl <;> simp
  have h4 : (if m4 then e else []).length ≤ 2 := by cases m4 <;> simp <;> omega
  have h5 : (if m2 then 43 :: joinB q.1 q.2.1 else [43]).length ≤ 131 := by cases m2 <;> simp <;> omega
  simp only [twB, List.length_append, List.length_cons]
  omega
end Go.Proofs.Ytcpoiaclicmmmaa
