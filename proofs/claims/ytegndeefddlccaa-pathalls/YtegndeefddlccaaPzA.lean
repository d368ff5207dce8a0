/-
  A column more or less: a global path ends elsewhere; in plain lists.
-/
import Derived.Test.YtegndeefddlccaaPwD
namespace Go.Proofs.Ytegndeefddlccaa
open Go.RowKit

def sumD : List UInt8 → Int
  | [] => 0
  | c :: cs => dnB c + sumD cs
def sumO : List UInt8 → Int
  | [] => 0
  | c :: cs => ovB c + sumO cs
theorem sumD_app (a b : List UInt8) : sumD (a ++ b) = sumD a + sumD b := by
  induction a with
  | nil => simp [sumD]
  | cons c a ih => simp [sumD, ih]; omega
theorem sumO_app (a b : List UInt8) : sumO (a ++ b) = sumO a + sumO b := by
  induction a with
  | nil => simp [sumO]
  | cons c a ih => simp [sumO, ih]; omega
theorem go_adds {m : Md} {c : UInt8} (h : goB m c = true) : 1 ≤ dnB c + ovB c := by
  rcases goB_kinds h with rfl | ⟨rfl | rfl, _⟩ <;> simp [dnB, ovB]
theorem steps_sum {m : Md} {nx ny : Nat} (hm : m.mode = 1) : ∀ (cols : List UInt8) (i j : Int), stepsB m nx ny i j cols = true → i + sumD cols = nx ∧ j + sumO cols = ny ∧ ∀ c ∈ cols, 1 ≤ dnB c + ovB c := by
  intro cols
  induction cols with
  | nil =>
    intro i j h
    simp only [stepsB, endB, hm, if_true, decide_eq_true_eq] at h
    simp [sumD, sumO]
    exact h
  | cons c cs ih =>
    intro i j h
    simp only [stepsB, Bool.and_eq_true] at h
    have := ih _ _ h.2
    refine ⟨by simp only [sumD]; omega, by simp only [sumO]; omega, fun d hd => ?_⟩
    rcases List.mem_cons.1 hd with rfl | hd
    · exact go_adds h.1.1
    · exact this.2.2 d hd
theorem allows_sum {m : Md} {nx ny : Nat} (hm : m.mode = 1) {cols : List UInt8} (h : allowsB m nx ny ⟨0, 0, cols⟩ = true) : sumD cols = nx ∧ sumO cols = ny ∧ ∀ c ∈ cols, 1 ≤ dnB c + ovB c := by
  unfold allowsB at h
  simp only [Bool.and_eq_true] at h
  have := steps_sum hm _ _ _ h.2
  simpa using this
theorem turned_more {m : Md} {nx ny : Nat} (hm : m.mode = 1) {cols : List UInt8} (h : allowsB m nx ny ⟨0, 0, cols⟩ = true) (at_ : Nat) (c : UInt8) (hc : 1 ≤ dnB c + ovB c) : allowsB m nx ny ⟨0, 0, (cols.take at_ ++ [c]) ++ cols.drop at_⟩ = false := by
  cases h2 : allowsB m nx ny ⟨0, 0, (cols.take at_ ++ [c]) ++ cols.drop at_⟩ with
  | false => rfl
  | true =>
    have h1 := allows_sum hm h
    have h3 := allows_sum hm h2
    have e1 : sumD (cols.take at_ ++ cols.drop at_) = sumD cols := by rw [List.take_append_drop]
    have e2 : sumO (cols.take at_ ++ cols.drop at_) = sumO cols := by rw [List.take_append_drop]
    rw [sumD_app] at e1
    rw [sumO_app] at e2
    simp only [sumD_app, sumO_app, sumD, sumO] at h3
    omega
theorem turned_less {m : Md} {nx ny : Nat} (hm : m.mode = 1) {cols : List UInt8} (h : allowsB m nx ny ⟨0, 0, cols⟩ = true) (at_ : Nat) (ha : at_ < cols.length) : allowsB m nx ny ⟨0, 0, cols.take at_ ++ cols.drop (at_ + 1)⟩ = false := by
  cases h2 : allowsB m nx ny ⟨0, 0, cols.take at_ ++ cols.drop (at_ + 1)⟩ with
  | false => rfl
  | true =>
    have h1 := allows_sum hm h
    have h3 := allows_sum hm h2
    have e1 : sumD (cols.take at_ ++ cols.drop at_) = sumD cols := by rw [List.take_append_drop]
    have e2 : sumO (cols.take at_ ++ cols.drop at_) = sumO cols := by rw [List.take_append_drop]
    rw [sumD_app] at e1
    rw [sumO_app] at e2
    have hc := h1.2.2 cols[at_] (List.getElem_mem ha)
    rw [List.drop_eq_getElem_cons ha] at e1 e2
    simp only [sumD_app, sumO_app, sumD, sumO] at h3 e1 e2
    omega
theorem bestL_mem (m : Md) (xs ys : List Int) : ∀ (l : List Pt) (r : Int × Pt), bestL m xs ys l = some r → r.2 ∈ l := by
  have key : ∀ (l : List Pt) (o : Option (Int × Pt)) (r : Int × Pt), l.foldl (bstep m xs ys) o = some r → r.2 ∈ l ∨ o = some r := by
    intro l
    induction l with
    | nil => intro o r h; exact .inr h
    | cons x l ih =>
      intro o r h
      rcases ih _ _ h with h | h
      · exact .inl (List.mem_cons_of_mem _ h)
      · unfold bstep at h
        split at h
        · cases h; exact .inl (by simp)
        · split at h
          · cases h; exact .inl (by simp)
          · exact .inr h
  intro l r h
  rcases key l none r h with h | h
  · exact h
  · cases h
theorem pt_zero {p : Pt} (h1 : p.i = 0) (h2 : p.j = 0) : p = ⟨0, 0, p.cols⟩ := by
  obtain ⟨i, j, c⟩ := p
  simp only at h1 h2
  subst h1 h2
  rfl
/-- The path that is told is legal; globally it begins at the first cell. -/
theorem best_ok {m : Md} {xs ys : List Int} (h : bsE m xs ys = 0) (hm : m.mode = 1) : refE m xs ys = 0 ∧ ∃ cols, (bsV m xs ys).2 = ⟨0, 0, cols⟩ ∧ cols.length ≤ 9 ∧ allowsB m xs.length ys.length ⟨0, 0, cols⟩ = true := by
  by_cases hsh : shE m xs ys = 0
  · cases hb : bestL m xs ys (pathsB m xs.length ys.length) with
    | none => rw [(bs_none hsh hb).1] at h; cases h
    | some r =>
      have hv := (bs_some hsh hb).2
      have hmem := bestL_mem _ _ _ _ _ hb
      have hok := pathsB_ok hmem
      have hl := shE_len hsh
      refine ⟨shE_ref hsh, r.2.cols, ?_, by omega, ?_⟩
      · rw [hv]
        have h1 := hok.1
        unfold allowsB at h1
        simp only [Bool.and_eq_true] at h1
        have h2 := h1.1.2
        rw [beginB_0 (by omega) (by omega)] at h2
        have h3 := of_decide_eq_true h2
        exact pt_zero h3.1 h3.2
      · have h1 := hok.1
        have h2 := h1
        unfold allowsB at h2
        simp only [Bool.and_eq_true] at h2
        have h4 := h2.1.2
        rw [beginB_0 (by omega) (by omega)] at h4
        have h3 := of_decide_eq_true h4
        rw [← pt_zero h3.1 h3.2]
        exact h1
  · rw [(bs_err hsh).1] at h
    exact absurd h hsh
theorem ex_take (s : ByteArray) (k : Nat) : (s.extract 0 k).data.toList = s.data.toList.take k := by
  simp [ByteArray.data_extract]
theorem ex_drop (s : ByteArray) (k : Nat) : (s.extract k s.size).data.toList = s.data.toList.drop k := by
  rw [ByteArray.data_extract, Array.toList_extract, List.extract_eq_take_drop]
  exact List.take_of_length_le (by rw [List.length_drop, ba_size]; omega)
theorem app_list (a b : ByteArray) : (a ++ b).data.toList = a.data.toList ++ b.data.toList := by rw [ByteArray.data_append, Array.toList_append]
end Go.Proofs.Ytegndeefddlccaa
