/-
  What is written is read as it was, in plain lists.
-/
import Derived.Test.YtcleejdlmamdhaaRun
import Derived.Test.YtcleejdlmamdhaaPrintPlain
namespace Go.Proofs.Ytcleejdlmamdhaa

theorem linesGo_free (z x : List UInt8) : ∀ cur, 10 ∉ x → linesGo cur (x ++ 10 :: z) = trimB (cur ++ x) :: linesGo [] z := by
  induction x with
  | nil => intro cur _; simp [linesGo]
  | cons c r ih =>
    intro cur h
    have h1 : c ≠ 10 := fun e => h (by simp [e])
    have e : linesGo cur (c :: (r ++ 10 :: z)) = linesGo (cur ++ [c]) (r ++ 10 :: z) := by simp [linesGo, h1]
    rw [List.cons_append, e, ih _ (fun hm => h (List.mem_cons_of_mem _ hm))]
    simp
theorem trimB_same (x : List UInt8) (h : 13 ∉ x) : trimB x = x := by
  unfold trimB
  rw [if_neg]
  intro e
  exact h (List.mem_of_getLast? e)
theorem letter_range {c : UInt8} (h : isLetB c = true) : 65 ≤ c.toNat ∧ c.toNat ≤ 122 := by
  simp only [isLetB, Bool.or_eq_true, Bool.and_eq_true, decide_eq_true_eq] at h
  omega
theorem letter_not {c : UInt8} (h : isLetB c = true) (n : UInt8) (hn : n.toNat < 65) : c ≠ n := by
  intro e; subst e; have := letter_range h; omega
theorem in_not {lo hi : Nat} {l : List UInt8} (h : allIn lo hi l = true) (n : UInt8) (hn : n.toNat < lo) : n ∉ l := by
  intro hm
  have := List.all_eq_true.1 h n hm
  simp only [inB, Bool.and_eq_true, decide_eq_true_eq] at this
  omega
theorem add_letters {q : Pq} {st : List Pq} {l : List UInt8} (hl : letsB l = true) (h0 : l ≠ []) (hb : q.2.2.length + l.length ≤ 65536) : stepB (q :: st) l = some ((q.1, q.2.1, q.2.2 ++ l) :: st) := by
  cases l with
  | nil => exact absurd rfl h0
  | cons c r =>
    have hc : isLetB c = true := List.all_eq_true.1 hl c (by simp)
    show (if c = 62 then _ else addB (q :: st) (c :: r)) = _
    rw [if_neg (letter_not hc 62 (by decide))]
    simp only [addB]
    rw [if_pos (by rw [hl]; simpa using hb)]
theorem run_chunks (w : Nat) (rest : List UInt8) (n o : List UInt8) (st : List Pq) (l : List UInt8) : ∀ (j : Nat) (cur acc : List UInt8), letsB l = true → letsB cur = true → (l = [] → cur = []) → acc.length + cur.length + l.length ≤ 65536 →
    runB ((n, o, acc) :: st) (linesGo cur (chunkGo w j l ++ rest)) = runB ((n, o, acc ++ cur ++ l) :: st) (linesB rest) := by
  induction l with
  | nil =>
    intro j cur acc _ _ h0 _
    rw [h0 rfl]; simp [chunkGo, linesB]
  | cons c r ih =>
    intro j cur acc hl hcur _ hlen
    have hl2 : isLetB c = true ∧ letsB r = true := by simpa [letsB] using hl
    have hcc : letsB (cur ++ [c]) = true := by
      unfold letsB at hcur ⊢
      rw [List.all_append, hcur]; simp [hl2.1]
    have h10 : c ≠ 10 := letter_not hl2.1 10 (by decide)
    have e0 : ∀ z, linesGo cur (c :: z) = linesGo (cur ++ [c]) z := fun z => by simp [linesGo, h10]
    show runB _ (linesGo cur ((c :: (if j + 1 = w ∨ r = [] then 10 :: chunkGo w 0 r else chunkGo w (j + 1) r)) ++ rest)) = _
    rw [List.cons_append, e0]
    by_cases hif : j + 1 = w ∨ r = []
    · rw [if_pos hif, List.cons_append]
      have e1 : linesGo (cur ++ [c]) (10 :: (chunkGo w 0 r ++ rest)) = (cur ++ [c]) :: linesGo [] (chunkGo w 0 r ++ rest) := by
        have h13 : trimB (cur ++ [c]) = cur ++ [c] := by
          unfold trimB
          rw [if_neg]
          simp
          exact letter_not hl2.1 13 (by decide)
        show (if (10 : UInt8) = 10 then trimB (cur ++ [c]) :: linesGo [] _ else _) = _
        rw [if_pos rfl, h13]
      rw [e1]
      simp only [runB]
      rw [add_letters hcc (by simp) (by simp at hlen ⊢; omega)]
      simp only []
      rw [ih 0 [] (acc ++ (cur ++ [c])) hl2.2 rfl (fun _ => rfl) (by simp at hlen ⊢; omega)]
      simp
    · rw [if_neg hif, ih (j + 1) (cur ++ [c]) acc hl2.2 hcc (fun e => absurd (Or.inr e) hif) (by simp at hlen ⊢; omega)]
      simp
theorem head_join {n o : List UInt8} (hn : nameB n = true) (ho : noteB o = true) : titleOkB (joinB n o) = true ∧ headB 32 (joinB n o) = n ∧ tailB 32 (joinB n o) = o ∧ (10 : UInt8) ∉ joinB n o ∧ (13 : UInt8) ∉ joinB n o := by
  have hn2 := hn
  have ho2 := ho
  simp only [nameB, noteB, Bool.and_eq_true, decide_eq_true_eq] at hn2 ho2
  have hno : (32 : UInt8) ∉ n := in_not hn2.2.2.1 32 (by decide)
  have h1 : (10 : UInt8) ∉ n := in_not hn2.2.2.1 10 (by decide)
  have h2 : (13 : UInt8) ∉ n := in_not hn2.2.2.1 13 (by decide)
  have h3 : (10 : UInt8) ∉ o := in_not ho2.2.1 10 (by decide)
  have h4 : (13 : UInt8) ∉ o := in_not ho2.2.1 13 (by decide)
  by_cases he : o = []
  · subst he
    have e : joinB n [] = n := by simp [joinB]
    rw [e]
    refine ⟨?_, headB_not_mem hno, tailB_not_mem hno, h1, h2⟩
    unfold titleOkB
    rw [headB_not_mem hno, tailB_not_mem hno, hn]
    have : hasB 32 n = false := by simp [hasB, hno]
    rw [this]; simp [noteB, allIn]
  · have e : joinB n o = n ++ 32 :: o := by unfold joinB; rw [if_neg he]
    have hh : ∀ (a : List UInt8), (32 : UInt8) ∉ a → headB 32 (a ++ 32 :: o) = a ∧ tailB 32 (a ++ 32 :: o) = o := by
      intro a
      induction a with
      | nil => intro _; exact ⟨headB_cons_eq .., tailB_cons_eq ..⟩
      | cons d t ih =>
        intro hd
        have hd1 : d ≠ 32 := fun e => hd (by simp [e])
        have := ih (fun hm => hd (List.mem_cons_of_mem _ hm))
        rw [List.cons_append, headB_cons_ne hd1, tailB_cons_ne hd1, this.1, this.2]; exact ⟨rfl, rfl⟩
    rw [e]
    obtain ⟨e1, e2⟩ := hh n hno
    refine ⟨?_, e1, e2, by simp [h1, h3], by simp [h2, h4]⟩
    unfold titleOkB
    rw [e1, e2, hn, ho]
    simp [he]
theorem run_seq (w : Nat) (rest : List UInt8) (q : Pq) (st : List Pq) (hq : okB q = true) (hn : namedB st q.1 = false) (hl : st.length < 64) (ho : openB st = false) :
    runB st (linesB (seqB w q ++ rest)) = runB (q :: st) (linesB rest) := by
  simp only [okB, Bool.and_eq_true] at hq
  obtain ⟨h1, h2, h3, h4, h5⟩ := head_join hq.1 hq.2.1
  have hb := hq.2.2
  simp only [basesB, Bool.and_eq_true, decide_eq_true_eq] at hb
  have e0 : seqB w q ++ rest = (62 :: joinB q.1 q.2.1) ++ 10 :: (chunkGo w 0 q.2.2 ++ rest) := by
    simp [seqB, titleLine]
  rw [e0]
  unfold linesB
  rw [linesGo_free _ _ [] (by simp [h4]), List.nil_append, trimB_same _ (by simp [h5])]
  simp only [runB]
  have e1 : stepB st (62 :: joinB q.1 q.2.1) = some ((q.1, q.2.1, []) :: st) := by
    have e2 : stepB st (62 :: joinB q.1 q.2.1) = beginB st (joinB q.1 q.2.1) := by simp [stepB]
    rw [e2]
    unfold beginB
    rw [h2, h3, if_pos (by simp [h1, hn, hl, ho])]
  rw [e1]
  simp only []
  rw [run_chunks w rest q.1 q.2.1 st q.2.2 0 [] [] hb.2.2 rfl (fun _ => rfl) (by simpa using hb.2.1)]
  rfl
theorem run_all (w : Nat) (l : List Pq) : ∀ (seen : List Pq), okGo seen l = true → seen.length + l.length ≤ 64 → openB seen.reverse = false → runB seen.reverse (linesB (allB w l)) = some (seen ++ l).reverse ∧ openB (seen ++ l).reverse = false := by
  induction l with
  | nil =>
    intro seen _ _ ho
    simp only [allB, List.map_nil, List.flatten_nil, linesB_nil, runB, List.append_nil]
    exact ⟨trivial, ho⟩
  | cons q r ih =>
    intro seen hok hl ho
    simp only [okGo, Bool.and_eq_true, Bool.not_eq_true'] at hok
    have e : allB w (q :: r) = seqB w q ++ allB w r := by simp [allB]
    have hnm : namedB seen.reverse q.1 = false := by
      have := hok.2.1
      unfold namedB at this ⊢
      rw [List.any_reverse]; exact this
    rw [e, run_seq w _ q seen.reverse hok.1 hnm (by simp at hl ⊢; omega) ho]
    have h2 := ih (seen ++ [q]) hok.2.2 (by simp at hl ⊢; omega) (by
      have hb := hok.1
      simp only [okB, basesB, Bool.and_eq_true, decide_eq_true_eq] at hb
      simp [openB, hb.2.2.1])
    have e2 : (seen ++ [q]).reverse = q :: seen.reverse := by simp
    rw [e2] at h2
    have e3 : seen ++ [q] ++ r = seen ++ q :: r := by simp
    rw [e3] at h2
    exact h2
/-- There and back. -/
theorem print_back (wd : Int) (l : List Pq) (h : (printB wd l).2 = 0) : parseB (printB wd l).1 = (l, 0, 0) := by
  unfold printB at h ⊢
  by_cases h1 : wd < 1 ∨ 200 < wd
  · rw [if_pos h1] at h; cases h
  rw [if_neg h1] at h ⊢
  by_cases h2 : 64 < l.length
  · rw [if_pos h2] at h; cases h
  rw [if_neg h2] at h ⊢
  by_cases h3 : okGo [] l = false
  · rw [if_pos h3] at h; cases h
  rw [if_neg h3] at h ⊢
  by_cases h4 : 1048576 < (allB wd.toNat l).length
  · rw [if_pos h4] at h; cases h
  rw [if_neg h4]
  have hr := run_all wd.toNat l [] (by simpa using h3) (by simp; omega) rfl
  simp only [List.nil_append, List.reverse_nil] at hr
  rcases parse_cases (allB wd.toNat l) (by omega) with ⟨s, r, o, p⟩ | ⟨h5 | ⟨s, r, o⟩, _⟩
  · rw [hr.1] at r; cases r
    rw [p, List.reverse_reverse]
  · rw [hr.1] at h5; cases h5
  · rw [hr.1] at r; cases r; rw [hr.2] at o; cases o
end Go.Proofs.Ytcleejdlmamdhaa
