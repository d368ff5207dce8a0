/-
  There and back, in plain lists: the columns of the runs of columns, what they take; the runs of the text of runs; the runs of two rows of columns.
-/
import Derived.Test.YtkecpjgpgnfhmaaDoorPlain2
namespace Go.Proofs.YtkecpjgpgnfhmaaDoor

/-! Columns by their runs -/
/-- Runs of columns, of which no two that stand side by side have one Op. -/
def good (p : Option UInt8) : List Rn → Prop
  | [] => True
  | r :: l => isColB r.1 = true ∧ 1 ≤ r.2 ∧ p ≠ some r.1 ∧ good (some r.1) l
def total : List Rn → Int
  | [] => 0
  | r :: l => r.2 + total l
def lastOp (p : Option UInt8) : List Rn → Option UInt8
  | [] => p
  | r :: l => lastOp (some r.1) l
theorem total_pos : ∀ (l : List Rn) (p : Option UInt8), good p l → 0 ≤ total l
  | [], _, _ => Int.le_refl _
  | r :: l, _, h => by have := total_pos l _ h.2.2.2; have := h.2.1; simp only [total]; omega
theorem col_not83 {c : UInt8} (h : isColB c = true) : c ≠ 83 := by rintro rfl; revert h; decide
theorem col_op {c : UInt8} (h : isColB c = true) : isOpB c = true := by simp [isOpB, h]
theorem good_rgo : ∀ (l : List Rn) (p : Option UInt8) (left : Int), good p l → total l ≤ left → rgo p left l = true
  | [], _, _, _, _ => rfl
  | r :: l, p, left, h, ht => by
    have h0 := total_pos l _ h.2.2.2
    simp only [total] at ht
    have hs : stepR p left r (decide (l = [])) = some (left - r.2) := by
      unfold stepR
      rw [if_neg (by rw [col_op h.1]; simp; exact ⟨by have := h.2.1; omega, h.2.2.1⟩), if_neg (col_not83 h.1), if_neg (by omega)]
    simp only [rgo, hs]
    exact good_rgo l _ _ h.2.2.2 (by omega)
theorem total_append : ∀ (l m : List Rn), total (l ++ m) = total l + total m
  | [], m => by simp [total]
  | r :: l, m => by simp only [List.cons_append, total, total_append l m]; omega
theorem lastOp_snoc : ∀ (l : List Rn) (p : Option UInt8) (r : Rn), lastOp p (l ++ [r]) = some r.1
  | [], _, _ => rfl
  | x :: l, _, r => by simp only [List.cons_append, lastOp]; exact lastOp_snoc l _ r
theorem good_snoc : ∀ (l : List Rn) (p : Option UInt8) (r : Rn), good p (l ++ [r]) ↔ good p l ∧ isColB r.1 = true ∧ 1 ≤ r.2 ∧ lastOp p l ≠ some r.1
  | [], p, r => by simp [good, lastOp]
  | x :: l, p, r => by
    simp only [List.cons_append, good, lastOp, good_snoc l (some x.1) r]
    constructor
    · rintro ⟨a, b, c, d, e⟩; exact ⟨⟨a, b, c, d⟩, e⟩
    · rintro ⟨⟨a, b, c, d⟩, e⟩; exact ⟨a, b, c, d, e⟩
def colOne (r : Rn) : List UInt8 := if r.1 = 83 then [] else List.replicate r.2.toNat r.1
theorem colsB_append (l m : List Rn) : colsB (l ++ m) = colsB l ++ colsB m := by simp [colsB]
theorem colsB_one (r : Rn) : colsB [r] = colOne r := by simp [colsB, colOne]
def refOne (r : Rn) : Int := if r.1 = 77 ∨ r.1 = 68 then r.2 else 0
def readOne (r : Rn) : Int := if r.1 = 68 then 0 else r.2
theorem refB_one (l : List Rn) (r : Rn) : refB (l ++ [r]) = refB l + refOne r := by
  simp only [refB, List.foldl_append, List.foldl_cons, List.foldl_nil, refOne]; split <;> omega
theorem readB_one (l : List Rn) (r : Rn) : readB (l ++ [r]) = readB l + readOne r := by
  simp only [readB, List.foldl_append, List.foldl_cons, List.foldl_nil, readOne]; split <;> omega

/-- What holds of the runs of columns. -/
structure RunsAre (s : List UInt8) (l : List Rn) : Prop where
  good : good none l
  total : total l = s.length
  cols : colsB l = s
  ref : refB l = ((s.filter fun c => c != 73).length : Int)
  read : readB l = ((s.filter fun c => c != 68).length : Int)
theorem one_ref {c : UInt8} (h : isColB c = true) : refOne (c, 1) = (([c].filter fun c => c != 73).length : Int) := by
  simp [isColB] at h
  rcases h with h | h | h <;> (subst h; decide)
theorem one_read (c : UInt8) : readOne (c, 1) = (([c].filter fun c => c != 68).length : Int) := by
  unfold readOne
  by_cases h : c = 68
  · subst h; decide
  · simp [h]
theorem refOne_more {c : UInt8} {n : Int} : refOne (c, n + 1) = refOne (c, n) + refOne (c, 1) := by
  unfold refOne; simp only; split <;> omega
theorem readOne_more {c : UInt8} {n : Int} : readOne (c, n + 1) = readOne (c, n) + readOne (c, 1) := by
  unfold readOne; simp only; split <;> omega
theorem RunsAre.more {s : List UInt8} {l : List Rn} (h : RunsAre s l) {c : UInt8} (hc : isColB c = true) : RunsAre (s ++ [c]) (lenB l c) := by
  have h83 := col_not83 hc
  have hf1 : (((s ++ [c]).filter fun c => c != 73).length : Int) = ((s.filter fun c => c != 73).length : Int) + (([c].filter fun c => c != 73).length : Int) := by rw [List.filter_append, List.length_append]; omega
  have hf2 : (((s ++ [c]).filter fun c => c != 68).length : Int) = ((s.filter fun c => c != 68).length : Int) + (([c].filter fun c => c != 68).length : Int) := by rw [List.filter_append, List.length_append]; omega
  rcases List.eq_nil_or_concat l with rfl | ⟨m, r, rfl⟩
  · rw [lenB_nil]
    have hs : s = [] := h.cols.symm
    subst hs
    refine ⟨⟨hc, by simp, by simp, trivial⟩, by simp [Go.Proofs.YtkecpjgpgnfhmaaDoor.total], ?_, ?_, ?_⟩
    · simp [colsB, h83]
    · have := refB_one [] (c, 1); rw [List.nil_append] at this; rw [this, one_ref hc, hf1]; simp [refB]
    · have := readB_one [] (c, 1); rw [List.nil_append] at this; rw [this, one_read, hf2]; simp [readB]
  · rw [List.concat_eq_append] at h
    rw [List.concat_eq_append, lenB_snoc]
    obtain ⟨hg, hr1, hr2, hr3⟩ := (good_snoc m none r).1 h.good
    have hto := h.total
    have hco := h.cols
    have hre := h.ref
    have hrd := h.read
    rw [total_append] at hto
    rw [colsB_append, colsB_one] at hco
    rw [refB_one] at hre
    rw [readB_one] at hrd
    simp only [Go.Proofs.YtkecpjgpgnfhmaaDoor.total] at hto
    split
    · rename_i e
      have hr : r = (c, r.2) := by rw [← e]
      rw [hr] at hco hre hrd
      refine ⟨(good_snoc _ _ _).2 ⟨hg, hc, by simp; omega, by rw [← e]; exact hr3⟩, ?_, ?_, ?_, ?_⟩
      · rw [total_append]; simp [Go.Proofs.YtkecpjgpgnfhmaaDoor.total]; omega
      · rw [colsB_append, colsB_one, ← hco, List.append_assoc]
        congr 1
        simp only [colOne, if_neg h83]
        rw [show (r.2 + 1).toNat = r.2.toNat + 1 by omega, List.replicate_succ']
      · rw [refB_one, refOne_more, one_ref hc, hf1, ← hre]; omega
      · rw [readB_one, readOne_more, one_read, hf2, ← hrd]; omega
    · rename_i e
      refine ⟨(good_snoc _ _ _).2 ⟨h.good, hc, by simp, by rw [lastOp_snoc]; simpa using e⟩, ?_, ?_, ?_, ?_⟩
      · rw [total_append, total_append]; simp [Go.Proofs.YtkecpjgpgnfhmaaDoor.total]; omega
      · rw [colsB_append, colsB_append, colsB_one, colsB_one, hco]
        simp [colOne, h83]
      · rw [refB_one, refB_one, one_ref hc, hf1, ← hre]
      · rw [readB_one, readB_one, one_read, hf2, ← hrd]
theorem runs_are (s : List UInt8) (h : s.all isColB = true) : RunsAre s (runsB s) := by
  have : ∀ k, k ≤ s.length → RunsAre (s.take k) (runsB (s.take k)) := by
    intro k
    induction k with
    | zero => intro _; exact ⟨trivial, by simp [runsB, total], by simp [runsB, colsB], by simp [runsB, refB], by simp [runsB, readB]⟩
    | succ k ih =>
      intro hk
      have hg : s[k]? = some s[k] := List.getElem?_eq_getElem (by omega)
      rw [runsB_take s k s[k] hg, List.take_succ_eq_append_getElem (by omega)]
      exact (ih (by omega)).more (List.all_eq_true.1 h _ (List.getElem_mem _))
  have h1 := this s.length (Nat.le_refl _)
  rwa [List.take_length] at h1
/-- Columns by their runs. -/
theorem of_back {s : List UInt8} {L : List Rn} (h : ofA s = (L, 0)) : rightB L = true ∧ colsA L = (s, 0) ∧ spansA L = (((s.filter fun c => c != 73).length : Int), ((s.filter fun c => c != 68).length : Int), 0) := by
  unfold ofA at h
  split at h
  · simp at h
  · rename_i hl
    split at h
    · rename_i ha
      simp only [Prod.mk.injEq, and_true] at h
      subst h
      have hr := runs_are s ha
      have hok : rightB (runsB s) = true := good_rgo _ _ _ hr.good (by rw [hr.total]; omega)
      exact ⟨hok, by rw [colsA, if_pos hok, hr.cols], by rw [spansA, if_pos hok, hr.ref, hr.read]⟩
    · simp at h

/-! Runs by their text -/
theorem dig_byte {d : Nat} (h : d < 10) : isDig (UInt8.ofNat (48 + d)) = true ∧ (UInt8.ofNat (48 + d)).toNat = 48 + d := by
  have e : (UInt8.ofNat (48 + d)).toNat = 48 + d := by rw [UInt8.toNat_ofNat', Nat.mod_eq_of_lt (by omega)]
  exact ⟨by simp [isDig]; omega, e⟩
theorem tok_digits : ∀ (n : Nat) (acc : List Rn) (s : List UInt8), 1 ≤ n → tokGo acc 0 (Lib.decDigits n ++ s) = tokGo acc n s := by
  intro n
  induction n using Nat.strongRecOn with
  | ind n ih =>
    intro acc s h1
    rw [Lib.decDigits]
    split
    · rename_i hn
      obtain ⟨hd, he⟩ := dig_byte hn
      rw [List.singleton_append, tokGo, if_pos hd, if_neg (by rintro ⟨_, e⟩; rw [e] at he; have : (48 : UInt8).toNat = 48 := rfl; omega), he]
      congr 1; omega
    · rename_i hn
      obtain ⟨hd, he⟩ := dig_byte (Nat.mod_lt n (by decide : 0 < 10))
      rw [List.append_assoc, ih (n / 10) (by omega) acc _ (by omega), List.singleton_append, tokGo, if_pos hd, if_neg (by rintro ⟨e, _⟩; omega), he]
      congr 1; omega
theorem op_dig {c : UInt8} (h : isOpB c = true) : isDig c = false := by
  simp [isOpB, isColB] at h
  rcases h with (h | h | h) | h <;> (subst h; decide)
theorem tok_text : ∀ (l acc : List Rn), (∀ r ∈ l, isOpB r.1 = true ∧ 1 ≤ r.2) → tokGo acc 0 (textB l) = some (acc ++ l)
  | [], acc, _ => by simp [textB, tokGo]
  | r :: l, acc, h => by
    obtain ⟨ho, hn⟩ := h r (by simp)
    have e : textB (r :: l) = Lib.decDigits r.2.toNat ++ (r.1 :: textB l) := by simp [textB]
    rw [e, tok_digits _ _ _ (by omega), tokGo, if_neg (by rw [op_dig ho]; decide), if_neg (by omega)]
    have e2 : (r.1, ((r.2.toNat : Nat) : Int)) = r := by rw [show ((r.2.toNat : Nat) : Int) = r.2 by omega]
    rw [e2, tok_text l (acc ++ [r]) (fun x hx => h x (by simp [hx])), List.append_assoc]
    rfl
theorem dec_long (n : Nat) : 1 ≤ (Lib.decDigits n).length := by
  rw [Lib.decDigits]; split <;> simp
theorem text_back {l : List Rn} (h : rightB l = true) : (textA l).2 = 0 ∧ parseA (textA l).1 = (l, 0) := by
  rw [textA, if_pos h]
  refine ⟨rfl, ?_⟩
  by_cases h0 : l = []
  · subst h0; rfl
  · simp only [if_neg h0]
    have hl : 2 ≤ (textB l).length := by
      cases l with
      | nil => exact absurd rfl h0
      | cons r l => have := dec_long r.2.toNat; simp [textB]; omega
    unfold parseA
    rw [if_neg (fun e => by rw [e] at hl; simp at hl), tok_text l [] (fun r hr => ⟨(right_each h r hr).1, (right_each h r hr).2.1⟩), List.nil_append, finA, if_pos ⟨h0, h⟩]

/-! Two rows of columns -/
def joinFirst (L : List Rn) (m : Rn) : List Rn :=
  match L.getLast? with
  | none => [m]
  | some r => if r.1 = m.1 then L.dropLast ++ [(r.1, r.2 + m.2)] else L ++ [m]
def joinR (L : List Rn) : List Rn → List Rn
  | [] => L
  | m :: ms => joinFirst L m ++ ms
theorem joinFirst_snoc (l : List Rn) (r m : Rn) : joinFirst (l ++ [r]) m = if r.1 = m.1 then l ++ [(r.1, r.2 + m.2)] else l ++ [r] ++ [m] := by simp [joinFirst]
theorem joinFirst_last (L : List Rn) (m : Rn) : ∃ X y, joinFirst L m = X ++ [(m.1, y)] ∧ ∀ z, joinFirst L (m.1, m.2 + z) = X ++ [(m.1, y + z)] := by
  rcases List.eq_nil_or_concat L with rfl | ⟨l, r, rfl⟩
  · exact ⟨[], m.2, rfl, fun z => rfl⟩
  · rw [List.concat_eq_append]
    by_cases h : r.1 = m.1
    · exact ⟨l, r.2 + m.2, by rw [joinFirst_snoc, if_pos h, h], fun z => by rw [joinFirst_snoc, if_pos h, h]; simp; omega⟩
    · exact ⟨l ++ [r], m.2, by rw [joinFirst_snoc, if_neg h], fun z => by rw [joinFirst_snoc, if_neg h]⟩
theorem join_len (L M : List Rn) (c : UInt8) : lenB (joinR L M) c = joinR L (lenB M c) := by
  cases M with
  | nil =>
    show lenB L c = joinFirst L (c, 1) ++ []
    rw [List.append_nil]
    rcases List.eq_nil_or_concat L with rfl | ⟨l, r, rfl⟩
    · rfl
    · rw [List.concat_eq_append, lenB_snoc, joinFirst_snoc]
      split
      · rename_i h; rw [h]
      · rfl
  | cons m ms =>
    rcases List.eq_nil_or_concat ms with rfl | ⟨ns, r, rfl⟩
    · obtain ⟨X, y, h1, h2⟩ := joinFirst_last L m
      have e1 : joinR L [m] = X ++ [(m.1, y)] := by show joinFirst L m ++ [] = _; rw [List.append_nil, h1]
      have e2 : lenB [m] c = if m.1 = c then [(c, m.2 + 1)] else [m, (c, 1)] := by have := lenB_snoc [] m c; simpa using this
      rw [e1, lenB_snoc, e2]
      split
      · rename_i h
        subst h
        show _ = joinFirst L (m.1, m.2 + 1) ++ []
        rw [h2 1, List.append_nil]
      · show _ = joinFirst L m ++ [(c, 1)]
        rw [h1]
    · rw [List.concat_eq_append]
      have e1 : joinR L (m :: (ns ++ [r])) = (joinFirst L m ++ ns) ++ [r] := by show joinFirst L m ++ (ns ++ [r]) = _; rw [List.append_assoc]
      have e2 : lenB (m :: (ns ++ [r])) c = if r.1 = c then m :: (ns ++ [(c, r.2 + 1)]) else m :: (ns ++ [r] ++ [(c, 1)]) := by have := lenB_snoc (m :: ns) r c; simpa using this
      rw [e1, lenB_snoc, e2]
      split
      · show _ = joinFirst L m ++ (ns ++ _); rw [List.append_assoc]
      · show _ = joinFirst L m ++ (ns ++ [r] ++ _); simp
theorem runs_join (a b : List UInt8) : runsB (a ++ b) = joinR (runsB a) (runsB b) := by
  have : ∀ k, k ≤ b.length → runsB (a ++ b.take k) = joinR (runsB a) (runsB (b.take k)) := by
    intro k
    induction k with
    | zero => intro _; simp [runsB, joinR]
    | succ k ih =>
      intro hk
      rw [List.take_succ_eq_append_getElem (by omega), ← List.append_assoc, runsB_snoc, runsB_snoc, ih (by omega), join_len]
  have h := this b.length (Nat.le_refl _)
  rwa [List.take_length] at h
theorem joinR_next (L M : List Rn) (k : Nat) (r : Rn) (hk : 0 < k) (h : M[k]? = some r) : joinR L (M.take (k + 1)) = joinR L (M.take k) ++ [r] := by
  cases M with
  | nil => simp at h
  | cons m ms =>
    obtain ⟨j, rfl⟩ : ∃ j, k = j + 1 := ⟨k - 1, by omega⟩
    have h' : ms[j]? = some r := by simpa using h
    obtain ⟨hlt, he⟩ := List.getElem?_eq_some_iff.1 h'
    show joinFirst L m ++ ms.take (j + 1) = joinFirst L m ++ ms.take j ++ [r]
    rw [List.take_succ_eq_append_getElem hlt, he, List.append_assoc]
theorem of_join {a b : List UInt8} (h : a.length + b.length ≤ 131072) : ofA (a ++ b) = if (ofA a).2 = 0 ∧ (ofA b).2 = 0 then (joinR (ofA a).1 (ofA b).1, 0) else ([], 40) := by
  have ha : ofA a = if a.all isColB then (runsB a, 0) else ([], 40) := by unfold ofA; rw [if_neg (by omega)]
  have hb : ofA b = if b.all isColB then (runsB b, 0) else ([], 40) := by unfold ofA; rw [if_neg (by omega)]
  have hc : ofA (a ++ b) = if (a ++ b).all isColB then (runsB (a ++ b), 0) else ([], 40) := by unfold ofA; rw [if_neg (by rw [List.length_append]; omega)]
  rw [ha, hb, hc, List.all_append, runs_join]
  cases a.all isColB <;> cases b.all isColB <;> simp
theorem of_long {a b : List UInt8} (h : 131072 < a.length + b.length) : ofA (a ++ b) = ([], 2) := by
  unfold ofA; rw [if_pos (by rw [List.length_append]; omega)]
end Go.Proofs.YtkecpjgpgnfhmaaDoor
