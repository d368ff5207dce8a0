/-
  A code whose starts have constants of their own, greater by one number.
-/
import Derived.Test.YtjpeoejielamiaaMpH
namespace Go.Proofs.Ytjpeoejielamiaa
open Go.RowKit

def isS (c : Cd) (q : Qd) : Bool := (q.1 == 2) && decide (0 ≤ q.2.2.1) && decide (q.2.2.1 < (c.consts.length : Int))
def shK (c : Cd) (z : Int) : List Qd → List Int
  | [] => []
  | q :: l => if isS c q then wrap64 (c.consts.getD q.2.2.1.toNat 0 + z) :: shK c z l else shK c z l
def shI (c : Cd) : Nat → List Qd → List Qd
  | _, [] => []
  | n, q :: l => if isS c q then (q.1, q.2.1, (n : Int), q.2.2.2) :: shI c (n + 1) l else q :: shI c n l
def shD (c : Cd) (z : Int) : Cd := { c with consts := c.consts ++ shK c z c.cell, cell := shI c c.consts.length c.cell }
theorem shI_length (c : Cd) : ∀ (l : List Qd) (n : Nat), (shI c n l).length = l.length
  | [], _ => rfl
  | q :: l, n => by
    unfold shI
    split
    · simp [shI_length c l]
    · simp [shI_length c l]
theorem shK_length (c : Cd) (z : Int) : ∀ l : List Qd, (shK c z l).length ≤ l.length
  | [] => Nat.le_refl _
  | q :: l => by
    unfold shK
    have := shK_length c z l
    split
    · simp; omega
    · simp; omega
theorem shK_snoc (c : Cd) (z : Int) (q : Qd) : ∀ l : List Qd, shK c z (l ++ [q]) = shK c z l ++ (if isS c q then [wrap64 (c.consts.getD q.2.2.1.toNat 0 + z)] else [])
  | [] => by
    simp only [List.nil_append, shK]
  | p :: l => by
    rw [List.cons_append]
    unfold shK
    rw [shK_snoc c z q l]
    split
    · rfl
    · rfl
theorem shI_snoc (c : Cd) (z : Int) (q : Qd) : ∀ (l : List Qd) (n : Nat), shI c n (l ++ [q]) = shI c n l ++ [if isS c q then (q.1, q.2.1, ((n + (shK c z l).length : Nat) : Int), q.2.2.2) else q]
  | [], n => by
    simp only [List.nil_append, shI, shK, List.length_nil, Nat.add_zero]
    split <;> rfl
  | p :: l, n => by
    rw [List.cons_append]
    unfold shI shK
    split
    · rw [shI_snoc c z q l]
      simp only [List.length_cons]
      rw [show n + 1 + (shK c z l).length = n + ((shK c z l).length + 1) by omega]
      rfl
    · rw [shI_snoc c z q l]
      rfl
theorem two_sh {c : Cd} (hc : Gk c) {z : Int} (hz : -1023 ≤ z ∧ z ≤ 1023) : Two c (shD c z) (fun k k' => k' = k + z) := by
  refine ⟨rfl, rfl, rfl, rfl, rfl, ?_⟩
  have key : ∀ (l pre : List Qd), c.cell = pre ++ l → al2 (insR c (shD c z) (fun k k' => k' = k + z)) l (shI c (c.consts.length + (shK c z pre).length) l) := by
    intro l
    induction l with
    | nil => intro pre _; exact trivial
    | cons q l ih =>
      intro pre hpre
      have hq : q ∈ c.cell := by rw [hpre]; simp
      have hnam := hc.nam hq
      have ih' := ih (pre ++ [q]) (by rw [hpre]; simp)
      rw [shK_snoc] at ih'
      have hget : ∀ b : Nat, b < c.consts.length → (shD c z).consts.getD b 0 = c.consts.getD b 0 := fun b hb => by
        show (c.consts ++ shK c z c.cell).getD b 0 = _
        simp only [List.getD_eq_getElem?_getD]
        rw [List.getElem?_append_left hb]
      unfold shI
      by_cases hs : isS c q = true
      · rw [if_pos hs] at ih' ⊢
        rw [List.length_append, List.length_singleton] at ih'
        refine ⟨?_, ih'⟩
        have hs2 := hs
        unfold isS at hs2
        simp only [Bool.and_eq_true, beq_iff_eq, decide_eq_true_eq] at hs2
        obtain ⟨⟨h1, h2⟩, h3⟩ := hs2
        refine ⟨rfl, rfl, rfl, fun h => absurd h1 h, fun _ => ?_, fun h => by omega⟩
        show (shD c z).consts.getD ((c.consts.length + (shK c z pre).length : Nat) : Int).toNat 0 = c.consts.getD q.2.2.1.toNat 0 + z
        rw [Int.toNat_natCast]
        have hall : shK c z c.cell = shK c z pre ++ wrap64 (c.consts.getD q.2.2.1.toNat 0 + z) :: shK c z l := by
          have app : ∀ a b : List Qd, shK c z (a ++ b) = shK c z a ++ shK c z b := by
            intro a b
            induction a with
            | nil => rfl
            | cons p a iha =>
              show (if isS c p = true then _ :: shK c z (a ++ b) else shK c z (a ++ b)) = (if isS c p = true then _ :: shK c z a else shK c z a) ++ shK c z b
              rw [iha]
              split <;> rfl
          rw [hpre, app]
          congr 1
          show (if isS c q = true then _ else _) = _
          rw [if_pos hs]
        show (c.consts ++ shK c z c.cell).getD _ 0 = _
        rw [hall, List.getD_eq_getElem?_getD, List.getElem?_append_right (by omega), List.getElem?_append_right (by omega)]
        rw [show c.consts.length + (shK c z pre).length - c.consts.length - (shK c z pre).length = 0 by omega]
        show wrap64 _ = _
        have hb : q.2.2.1.toNat < c.consts.length := by omega
        have hk := hc.rt.consts (c.consts.getD q.2.2.1.toNat 0) (by
          rw [List.getD_eq_getElem?_getD, List.getElem?_eq_getElem hb]
          exact List.getElem_mem hb)
        exact wrap_in (by unfold bnd; omega)
      · rw [if_neg hs] at ih' ⊢
        rw [List.append_nil] at ih'
        refine ⟨⟨rfl, rfl, rfl, fun _ => rfl, fun h => ?_, fun h => ?_⟩, ih'⟩
        · exfalso
          have h3 := hnam.2.2.1
          rw [h] at h3
          have h4 : (limB c 2).2.1 = (c.consts.length : Int) := rfl
          rw [h4] at h3
          exact hs (by unfold isS; simp only [Bool.and_eq_true, beq_iff_eq, decide_eq_true_eq]; exact ⟨⟨h, h3.1⟩, h3.2⟩)
        · have h3 := hnam.2.2.1
          have h4 : (limB c q.1).2.1 = (c.consts.length : Int) := by
            rcases h with h | h <;> (rw [h]; rfl)
          rw [h4] at h3
          exact hget _ (by omega)
  have := key c.cell [] rfl
  rw [show (shK c z ([] : List Qd)).length = 0 from rfl, Nat.add_zero] at this
  exact this
theorem ref_sh (c : Cd) (z : Int) (x y : List Int) (h : (chkB c).2 = 0) (h2 : (chkB (shD c z)).2 = 0) : refB (chkB (shD c z)).2 (shD c z) x y = refB (chkB c).2 c x y := by
  rw [h, h2]; rfl
theorem sh_ends {c : Cd} {z : Int} (h : (chkB c).2 = 0) (h2 : (chkB (shD c z)).2 = 0) (hz : -1023 ≤ z ∧ z ≤ 1023) (x y : List Int) (hx : (x.length : Int) ≤ c.most) (hy : (y.length : Int) ≤ c.most) : shE z (runM c x y).ends (runM (shD c z) x y).ends :=
  shift (gk_of h) (gk_of h2) (two_sh (gk_of h) hz) rfl rfl rfl x y hx hy
theorem isS_iff (c : Cd) (q : Qd) : isS c q = true ↔ q.1 = 2 ∧ 0 ≤ q.2.2.1 ∧ q.2.2.1 < (c.consts.length : Int) := by
  unfold isS
  simp only [Bool.and_eq_true, beq_iff_eq, decide_eq_true_eq, and_assoc]
theorem take_snoc' {α : Type} (l : List α) {i : Nat} (h : i < l.length) : l.take (i + 1) = l.take i ++ [l[i]] := by simp
end Go.Proofs.Ytjpeoejielamiaa
